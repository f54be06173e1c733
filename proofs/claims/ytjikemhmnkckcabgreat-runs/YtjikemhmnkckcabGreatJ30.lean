import Derived.Test.YtjikemhmnkckcabGreatJ29
/- The document's May. -/
namespace Go.Proofs.YtjikemhmnkckcabGreat
open Go.RowKit

def regB (v : Int) : Bool := withinB v 0 7
def byteB (v : Int) : Bool := withinB v 0 255
set_option maxRecDepth 100000 in
theorem register_any (v : Int) (w : World) : Calls Tryz.prog 120 #[.int .i64 v] w fun e w' => e = .returned (.bool (regB v)) ∧ w = w' := by
  have HF : Hid (regB v = (decide (0 ≤ v) && decide (v ≤ 7))) := rfl
  by_cases h : 0 ≤ v
  · go_enter Tryz.func120, Tryz.ntmps120
    go_wp2
    go_ret
    exact ⟨ret_bool (by rw [HF.out, Bool.eq_iff_iff]; simp; omega), rfl⟩
  · go_enter Tryz.func120, Tryz.ntmps120
    go_wp2
    go_ret
    exact ⟨ret_bool (by rw [HF.out, Bool.eq_iff_iff]; simp; omega), rfl⟩
set_option maxRecDepth 100000 in
theorem byteWide_any (v : Int) (w : World) : Calls Tryz.prog 121 #[.int .i64 v] w fun e w' => e = .returned (.bool (byteB v)) ∧ w = w' := by
  have HF : Hid (byteB v = (decide (0 ≤ v) && decide (v ≤ 255))) := rfl
  by_cases h : 0 ≤ v
  · go_enter Tryz.func121, Tryz.ntmps121
    go_wp2
    go_ret
    exact ⟨ret_bool (by rw [HF.out, Bool.eq_iff_iff]; simp; omega), rfl⟩
  · go_enter Tryz.func121, Tryz.ntmps121
    go_wp2
    go_ret
    exact ⟨ret_bool (by rw [HF.out, Bool.eq_iff_iff]; simp; omega), rfl⟩

theorem zeroB (v : Int) : withinB v 0 0 = (v == 0) := by
  unfold withinB
  rw [Bool.eq_iff_iff]; simp; omega
theorem inB (v n : Int) : withinB v 0 (n - 1) = (decide (0 ≤ v) && decide (v < n)) := by
  unfold withinB
  rw [Bool.eq_iff_iff]; simp; omega

set_option maxRecDepth 100000 in
set_option maxHeartbeats 3200000 in
theorem may_g0 (op a b c n : Int) (w : World) (ho : op = 0 ∨ op = 8 ∨ op = 9 ∨ op = 12) :
    Calls Tryz.prog 86 #[.agg #[.int .i64 op, .int .i64 a, .int .i64 b, .int .i64 c], .int .i64 n] w fun e w' => e = .returned (.bool (mayB op a b c n)) ∧ Below w.heap.size w w' := by
  have HF : Hid (mayB op a b c n = (regB a && (b == 0) && (c == 0))) := by
    have hk : opKinds op = [82, 90, 90] := by rcases ho with rfl | rfl | rfl | rfl <;> rfl
    show _ = _
    unfold mayB
    rw [hk]
    show (kindB 82 a n && kindB 90 b n && kindB 90 c n) = _
    simp only [kindB]
    simp [regB, zeroB]
  generalize mayB op a b c n = res at *
  rcases ho with rfl | rfl | rfl | rfl
  all_goals
    cases c3 : regB a
    · go_enter Tryz.func86, Tryz.ntmps86
      go_wp2_with (first
        | (go_at_call 120; refine (register_any _ _).mono ?_; rintro e1 w1 ⟨rfl, rfl⟩)
        | (go_at_call 121; refine (byteWide_any _ _).mono ?_; rintro e1 w1 ⟨rfl, rfl⟩))
      go_ret
      exact ⟨ret_bool (by rw [HF.out]; first | (simp [*]; done) | (rw [Bool.eq_iff_iff]; simp [*]; omega) | (rw [Bool.eq_iff_iff]; simp; omega)), (Below.refl _ _).alloc (Nat.le_refl _) _⟩
    · by_cases c2 : b = 0
      · have d2 : (b == 0) = true := by simp [c2]
        go_enter Tryz.func86, Tryz.ntmps86
        go_wp2_with (first
          | (go_at_call 120; refine (register_any _ _).mono ?_; rintro e1 w1 ⟨rfl, rfl⟩)
          | (go_at_call 121; refine (byteWide_any _ _).mono ?_; rintro e1 w1 ⟨rfl, rfl⟩))
        go_ret
        exact ⟨ret_bool (by rw [HF.out]; first | (simp [*]; done) | (rw [Bool.eq_iff_iff]; simp [*]; omega) | (rw [Bool.eq_iff_iff]; simp; omega)), (Below.refl _ _).alloc (Nat.le_refl _) _⟩
      · have d2 : (b == 0) = false := by rw [beq_eq_false_iff_ne]; exact c2
        go_enter Tryz.func86, Tryz.ntmps86
        go_wp2_with (first
          | (go_at_call 120; refine (register_any _ _).mono ?_; rintro e1 w1 ⟨rfl, rfl⟩)
          | (go_at_call 121; refine (byteWide_any _ _).mono ?_; rintro e1 w1 ⟨rfl, rfl⟩))
        go_ret
        exact ⟨ret_bool (by rw [HF.out]; first | (simp [*]; done) | (rw [Bool.eq_iff_iff]; simp [*]; omega) | (rw [Bool.eq_iff_iff]; simp; omega)), (Below.refl _ _).alloc (Nat.le_refl _) _⟩

set_option maxRecDepth 100000 in
set_option maxHeartbeats 3200000 in
theorem may_g1 (op a b c n : Int) (w : World) (ho : op = 1 ∨ op = 10) :
    Calls Tryz.prog 86 #[.agg #[.int .i64 op, .int .i64 a, .int .i64 b, .int .i64 c], .int .i64 n] w fun e w' => e = .returned (.bool (mayB op a b c n)) ∧ Below w.heap.size w w' := by
  have HF : Hid (mayB op a b c n = (regB a && byteB b && byteB c)) := by
    have hk : opKinds op = [82, 66, 66] := by rcases ho with rfl | rfl <;> rfl
    show _ = _
    unfold mayB
    rw [hk]
    show (kindB 82 a n && kindB 66 b n && kindB 66 c n) = _
    simp only [kindB]
    simp [regB, byteB]
  generalize mayB op a b c n = res at *
  rcases ho with rfl | rfl
  all_goals
    cases c3 : regB a
    · go_enter Tryz.func86, Tryz.ntmps86
      go_wp2_with (first
        | (go_at_call 120; refine (register_any _ _).mono ?_; rintro e1 w1 ⟨rfl, rfl⟩)
        | (go_at_call 121; refine (byteWide_any _ _).mono ?_; rintro e1 w1 ⟨rfl, rfl⟩))
      go_ret
      exact ⟨ret_bool (by rw [HF.out]; first | (simp [*]; done) | (rw [Bool.eq_iff_iff]; simp [*]; omega) | (rw [Bool.eq_iff_iff]; simp; omega)), (Below.refl _ _).alloc (Nat.le_refl _) _⟩
    · cases c2 : byteB b
      · go_enter Tryz.func86, Tryz.ntmps86
        go_wp2_with (first
          | (go_at_call 120; refine (register_any _ _).mono ?_; rintro e1 w1 ⟨rfl, rfl⟩)
          | (go_at_call 121; refine (byteWide_any _ _).mono ?_; rintro e1 w1 ⟨rfl, rfl⟩))
        go_ret
        exact ⟨ret_bool (by rw [HF.out]; first | (simp [*]; done) | (rw [Bool.eq_iff_iff]; simp [*]; omega) | (rw [Bool.eq_iff_iff]; simp; omega)), (Below.refl _ _).alloc (Nat.le_refl _) _⟩
      · go_enter Tryz.func86, Tryz.ntmps86
        go_wp2_with (first
          | (go_at_call 120; refine (register_any _ _).mono ?_; rintro e1 w1 ⟨rfl, rfl⟩)
          | (go_at_call 121; refine (byteWide_any _ _).mono ?_; rintro e1 w1 ⟨rfl, rfl⟩))
        go_ret
        exact ⟨ret_bool (by rw [HF.out]; first | (simp [*]; done) | (rw [Bool.eq_iff_iff]; simp [*]; omega) | (rw [Bool.eq_iff_iff]; simp; omega)), (Below.refl _ _).alloc (Nat.le_refl _) _⟩

set_option maxRecDepth 100000 in
set_option maxHeartbeats 3200000 in
theorem may_g2 (op a b c n : Int) (w : World) (ho : op = 2 ∨ op = 3 ∨ op = 4 ∨ op = 5 ∨ op = 13 ∨ op = 19) :
    Calls Tryz.prog 86 #[.agg #[.int .i64 op, .int .i64 a, .int .i64 b, .int .i64 c], .int .i64 n] w fun e w' => e = .returned (.bool (mayB op a b c n)) ∧ Below w.heap.size w w' := by
  have HF : Hid (mayB op a b c n = (regB a && regB b && regB c)) := by
    have hk : opKinds op = [82, 82, 82] := by rcases ho with rfl | rfl | rfl | rfl | rfl | rfl <;> rfl
    show _ = _
    unfold mayB
    rw [hk]
    show (kindB 82 a n && kindB 82 b n && kindB 82 c n) = _
    simp only [kindB]
    simp [regB]
  generalize mayB op a b c n = res at *
  rcases ho with rfl | rfl | rfl | rfl | rfl | rfl
  all_goals
    cases c3 : regB a
    · go_enter Tryz.func86, Tryz.ntmps86
      go_wp2_with (first
        | (go_at_call 120; refine (register_any _ _).mono ?_; rintro e1 w1 ⟨rfl, rfl⟩)
        | (go_at_call 121; refine (byteWide_any _ _).mono ?_; rintro e1 w1 ⟨rfl, rfl⟩))
      go_ret
      exact ⟨ret_bool (by rw [HF.out]; first | (simp [*]; done) | (rw [Bool.eq_iff_iff]; simp [*]; omega) | (rw [Bool.eq_iff_iff]; simp; omega)), (Below.refl _ _).alloc (Nat.le_refl _) _⟩
    · cases c2 : regB b
      · go_enter Tryz.func86, Tryz.ntmps86
        go_wp2_with (first
          | (go_at_call 120; refine (register_any _ _).mono ?_; rintro e1 w1 ⟨rfl, rfl⟩)
          | (go_at_call 121; refine (byteWide_any _ _).mono ?_; rintro e1 w1 ⟨rfl, rfl⟩))
        go_ret
        exact ⟨ret_bool (by rw [HF.out]; first | (simp [*]; done) | (rw [Bool.eq_iff_iff]; simp [*]; omega) | (rw [Bool.eq_iff_iff]; simp; omega)), (Below.refl _ _).alloc (Nat.le_refl _) _⟩
      · go_enter Tryz.func86, Tryz.ntmps86
        go_wp2_with (first
          | (go_at_call 120; refine (register_any _ _).mono ?_; rintro e1 w1 ⟨rfl, rfl⟩)
          | (go_at_call 121; refine (byteWide_any _ _).mono ?_; rintro e1 w1 ⟨rfl, rfl⟩))
        go_ret
        exact ⟨ret_bool (by rw [HF.out]; first | (simp [*]; done) | (rw [Bool.eq_iff_iff]; simp [*]; omega) | (rw [Bool.eq_iff_iff]; simp; omega)), (Below.refl _ _).alloc (Nat.le_refl _) _⟩

set_option maxRecDepth 100000 in
set_option maxHeartbeats 3200000 in
theorem may_g3 (op a b c n : Int) (w : World) (ho : op = 6) :
    Calls Tryz.prog 86 #[.agg #[.int .i64 op, .int .i64 a, .int .i64 b, .int .i64 c], .int .i64 n] w fun e w' => e = .returned (.bool (mayB op a b c n)) ∧ Below w.heap.size w w' := by
  have HF : Hid (mayB op a b c n = ((decide (0 ≤ a) && decide (a < n)) && (b == 0) && (c == 0))) := by
    have hk : opKinds op = [84, 90, 90] := by rcases ho with rfl <;> rfl
    show _ = _
    unfold mayB
    rw [hk]
    show (kindB 84 a n && kindB 90 b n && kindB 90 c n) = _
    simp only [kindB]
    simp [zeroB, inB]
  generalize mayB op a b c n = res at *
  rcases ho with rfl
  all_goals
    by_cases c4 : 0 ≤ a
    · by_cases c3 : a < n
      · by_cases c2 : b = 0
        · have d2 : (b == 0) = true := by simp [c2]
          go_enter Tryz.func86, Tryz.ntmps86
          go_wp2_with (first
            | (go_at_call 120; refine (register_any _ _).mono ?_; rintro e1 w1 ⟨rfl, rfl⟩)
            | (go_at_call 121; refine (byteWide_any _ _).mono ?_; rintro e1 w1 ⟨rfl, rfl⟩))
          go_ret
          exact ⟨ret_bool (by rw [HF.out]; first | (simp [*]; done) | (rw [Bool.eq_iff_iff]; simp [*]; omega) | (rw [Bool.eq_iff_iff]; simp; omega)), (Below.refl _ _).alloc (Nat.le_refl _) _⟩
        · have d2 : (b == 0) = false := by rw [beq_eq_false_iff_ne]; exact c2
          go_enter Tryz.func86, Tryz.ntmps86
          go_wp2_with (first
            | (go_at_call 120; refine (register_any _ _).mono ?_; rintro e1 w1 ⟨rfl, rfl⟩)
            | (go_at_call 121; refine (byteWide_any _ _).mono ?_; rintro e1 w1 ⟨rfl, rfl⟩))
          go_ret
          exact ⟨ret_bool (by rw [HF.out]; first | (simp [*]; done) | (rw [Bool.eq_iff_iff]; simp [*]; omega) | (rw [Bool.eq_iff_iff]; simp; omega)), (Below.refl _ _).alloc (Nat.le_refl _) _⟩
      · go_enter Tryz.func86, Tryz.ntmps86
        go_wp2_with (first
          | (go_at_call 120; refine (register_any _ _).mono ?_; rintro e1 w1 ⟨rfl, rfl⟩)
          | (go_at_call 121; refine (byteWide_any _ _).mono ?_; rintro e1 w1 ⟨rfl, rfl⟩))
        go_ret
        exact ⟨ret_bool (by rw [HF.out]; first | (simp [*]; done) | (rw [Bool.eq_iff_iff]; simp [*]; omega) | (rw [Bool.eq_iff_iff]; simp; omega)), (Below.refl _ _).alloc (Nat.le_refl _) _⟩
    · go_enter Tryz.func86, Tryz.ntmps86
      go_wp2_with (first
        | (go_at_call 120; refine (register_any _ _).mono ?_; rintro e1 w1 ⟨rfl, rfl⟩)
        | (go_at_call 121; refine (byteWide_any _ _).mono ?_; rintro e1 w1 ⟨rfl, rfl⟩))
      go_ret
      exact ⟨ret_bool (by rw [HF.out]; first | (simp [*]; done) | (rw [Bool.eq_iff_iff]; simp [*]; omega) | (rw [Bool.eq_iff_iff]; simp; omega)), (Below.refl _ _).alloc (Nat.le_refl _) _⟩

set_option maxRecDepth 100000 in
set_option maxHeartbeats 3200000 in
theorem may_g4 (op a b c n : Int) (w : World) (ho : op = 7) :
    Calls Tryz.prog 86 #[.agg #[.int .i64 op, .int .i64 a, .int .i64 b, .int .i64 c], .int .i64 n] w fun e w' => e = .returned (.bool (mayB op a b c n)) ∧ Below w.heap.size w w' := by
  have HF : Hid (mayB op a b c n = (regB a && (decide (0 ≤ b) && decide (b < n)) && (c == 0))) := by
    have hk : opKinds op = [82, 84, 90] := by rcases ho with rfl <;> rfl
    show _ = _
    unfold mayB
    rw [hk]
    show (kindB 82 a n && kindB 84 b n && kindB 90 c n) = _
    simp only [kindB]
    simp [regB, zeroB, inB]
  generalize mayB op a b c n = res at *
  rcases ho with rfl
  all_goals
    cases c4 : regB a
    · go_enter Tryz.func86, Tryz.ntmps86
      go_wp2_with (first
        | (go_at_call 120; refine (register_any _ _).mono ?_; rintro e1 w1 ⟨rfl, rfl⟩)
        | (go_at_call 121; refine (byteWide_any _ _).mono ?_; rintro e1 w1 ⟨rfl, rfl⟩))
      go_ret
      exact ⟨ret_bool (by rw [HF.out]; first | (simp [*]; done) | (rw [Bool.eq_iff_iff]; simp [*]; omega) | (rw [Bool.eq_iff_iff]; simp; omega)), (Below.refl _ _).alloc (Nat.le_refl _) _⟩
    · by_cases c3 : 0 ≤ b
      · by_cases c2 : b < n
        · go_enter Tryz.func86, Tryz.ntmps86
          go_wp2_with (first
            | (go_at_call 120; refine (register_any _ _).mono ?_; rintro e1 w1 ⟨rfl, rfl⟩)
            | (go_at_call 121; refine (byteWide_any _ _).mono ?_; rintro e1 w1 ⟨rfl, rfl⟩))
          go_ret
          exact ⟨ret_bool (by rw [HF.out]; first | (simp [*]; done) | (rw [Bool.eq_iff_iff]; simp [*]; omega) | (rw [Bool.eq_iff_iff]; simp; omega)), (Below.refl _ _).alloc (Nat.le_refl _) _⟩
        · go_enter Tryz.func86, Tryz.ntmps86
          go_wp2_with (first
            | (go_at_call 120; refine (register_any _ _).mono ?_; rintro e1 w1 ⟨rfl, rfl⟩)
            | (go_at_call 121; refine (byteWide_any _ _).mono ?_; rintro e1 w1 ⟨rfl, rfl⟩))
          go_ret
          exact ⟨ret_bool (by rw [HF.out]; first | (simp [*]; done) | (rw [Bool.eq_iff_iff]; simp [*]; omega) | (rw [Bool.eq_iff_iff]; simp; omega)), (Below.refl _ _).alloc (Nat.le_refl _) _⟩
      · go_enter Tryz.func86, Tryz.ntmps86
        go_wp2_with (first
          | (go_at_call 120; refine (register_any _ _).mono ?_; rintro e1 w1 ⟨rfl, rfl⟩)
          | (go_at_call 121; refine (byteWide_any _ _).mono ?_; rintro e1 w1 ⟨rfl, rfl⟩))
        go_ret
        exact ⟨ret_bool (by rw [HF.out]; first | (simp [*]; done) | (rw [Bool.eq_iff_iff]; simp [*]; omega) | (rw [Bool.eq_iff_iff]; simp; omega)), (Below.refl _ _).alloc (Nat.le_refl _) _⟩

set_option maxRecDepth 100000 in
set_option maxHeartbeats 3200000 in
theorem may_g5 (op a b c n : Int) (w : World) (ho : op = 11 ∨ op = 14) :
    Calls Tryz.prog 86 #[.agg #[.int .i64 op, .int .i64 a, .int .i64 b, .int .i64 c], .int .i64 n] w fun e w' => e = .returned (.bool (mayB op a b c n)) ∧ Below w.heap.size w w' := by
  have HF : Hid (mayB op a b c n = (regB a && regB b && (c == 0))) := by
    have hk : opKinds op = [82, 82, 90] := by rcases ho with rfl | rfl <;> rfl
    show _ = _
    unfold mayB
    rw [hk]
    show (kindB 82 a n && kindB 82 b n && kindB 90 c n) = _
    simp only [kindB]
    simp [regB, zeroB]
  generalize mayB op a b c n = res at *
  rcases ho with rfl | rfl
  all_goals
    cases c3 : regB a
    · go_enter Tryz.func86, Tryz.ntmps86
      go_wp2_with (first
        | (go_at_call 120; refine (register_any _ _).mono ?_; rintro e1 w1 ⟨rfl, rfl⟩)
        | (go_at_call 121; refine (byteWide_any _ _).mono ?_; rintro e1 w1 ⟨rfl, rfl⟩))
      go_ret
      exact ⟨ret_bool (by rw [HF.out]; first | (simp [*]; done) | (rw [Bool.eq_iff_iff]; simp [*]; omega) | (rw [Bool.eq_iff_iff]; simp; omega)), (Below.refl _ _).alloc (Nat.le_refl _) _⟩
    · cases c2 : regB b
      · go_enter Tryz.func86, Tryz.ntmps86
        go_wp2_with (first
          | (go_at_call 120; refine (register_any _ _).mono ?_; rintro e1 w1 ⟨rfl, rfl⟩)
          | (go_at_call 121; refine (byteWide_any _ _).mono ?_; rintro e1 w1 ⟨rfl, rfl⟩))
        go_ret
        exact ⟨ret_bool (by rw [HF.out]; first | (simp [*]; done) | (rw [Bool.eq_iff_iff]; simp [*]; omega) | (rw [Bool.eq_iff_iff]; simp; omega)), (Below.refl _ _).alloc (Nat.le_refl _) _⟩
      · go_enter Tryz.func86, Tryz.ntmps86
        go_wp2_with (first
          | (go_at_call 120; refine (register_any _ _).mono ?_; rintro e1 w1 ⟨rfl, rfl⟩)
          | (go_at_call 121; refine (byteWide_any _ _).mono ?_; rintro e1 w1 ⟨rfl, rfl⟩))
        go_ret
        exact ⟨ret_bool (by rw [HF.out]; first | (simp [*]; done) | (rw [Bool.eq_iff_iff]; simp [*]; omega) | (rw [Bool.eq_iff_iff]; simp; omega)), (Below.refl _ _).alloc (Nat.le_refl _) _⟩

set_option maxRecDepth 100000 in
set_option maxHeartbeats 3200000 in
theorem may_g6 (op a b c n : Int) (w : World) (ho : op = 15 ∨ op = 16 ∨ op = 17 ∨ op = 18) :
    Calls Tryz.prog 86 #[.agg #[.int .i64 op, .int .i64 a, .int .i64 b, .int .i64 c], .int .i64 n] w fun e w' => e = .returned (.bool (mayB op a b c n)) ∧ Below w.heap.size w w' := by
  have HF : Hid (mayB op a b c n = (regB a && regB b && byteB c)) := by
    have hk : opKinds op = [82, 82, 66] := by rcases ho with rfl | rfl | rfl | rfl <;> rfl
    show _ = _
    unfold mayB
    rw [hk]
    show (kindB 82 a n && kindB 82 b n && kindB 66 c n) = _
    simp only [kindB]
    simp [regB, byteB]
  generalize mayB op a b c n = res at *
  rcases ho with rfl | rfl | rfl | rfl
  all_goals
    cases c3 : regB a
    · go_enter Tryz.func86, Tryz.ntmps86
      go_wp2_with (first
        | (go_at_call 120; refine (register_any _ _).mono ?_; rintro e1 w1 ⟨rfl, rfl⟩)
        | (go_at_call 121; refine (byteWide_any _ _).mono ?_; rintro e1 w1 ⟨rfl, rfl⟩))
      go_ret
      exact ⟨ret_bool (by rw [HF.out]; first | (simp [*]; done) | (rw [Bool.eq_iff_iff]; simp [*]; omega) | (rw [Bool.eq_iff_iff]; simp; omega)), (Below.refl _ _).alloc (Nat.le_refl _) _⟩
    · cases c2 : regB b
      · go_enter Tryz.func86, Tryz.ntmps86
        go_wp2_with (first
          | (go_at_call 120; refine (register_any _ _).mono ?_; rintro e1 w1 ⟨rfl, rfl⟩)
          | (go_at_call 121; refine (byteWide_any _ _).mono ?_; rintro e1 w1 ⟨rfl, rfl⟩))
        go_ret
        exact ⟨ret_bool (by rw [HF.out]; first | (simp [*]; done) | (rw [Bool.eq_iff_iff]; simp [*]; omega) | (rw [Bool.eq_iff_iff]; simp; omega)), (Below.refl _ _).alloc (Nat.le_refl _) _⟩
      · go_enter Tryz.func86, Tryz.ntmps86
        go_wp2_with (first
          | (go_at_call 120; refine (register_any _ _).mono ?_; rintro e1 w1 ⟨rfl, rfl⟩)
          | (go_at_call 121; refine (byteWide_any _ _).mono ?_; rintro e1 w1 ⟨rfl, rfl⟩))
        go_ret
        exact ⟨ret_bool (by rw [HF.out]; first | (simp [*]; done) | (rw [Bool.eq_iff_iff]; simp [*]; omega) | (rw [Bool.eq_iff_iff]; simp; omega)), (Below.refl _ _).alloc (Nat.le_refl _) _⟩

set_option maxRecDepth 100000 in
set_option maxHeartbeats 1600000 in
theorem may_no (op a b c n : Int) (w : World) (h : op < 0 ∨ 19 < op) :
    Calls Tryz.prog 86 #[.agg #[.int .i64 op, .int .i64 a, .int .i64 b, .int .i64 c], .int .i64 n] w fun e w' => e = .returned (.bool (mayB op a b c n)) ∧ Below w.heap.size w w' := by
  have HM : Hid (mayB op a b c n = false) := by show _ = _; unfold mayB; rw [opKinds_none h]
  rw [HM.out]
  have q0 : (op == 0) = false := by rw [beq_eq_false_iff_ne]; omega
  have q1 : (op == 1) = false := by rw [beq_eq_false_iff_ne]; omega
  have q2 : (op == 2) = false := by rw [beq_eq_false_iff_ne]; omega
  have q3 : (op == 3) = false := by rw [beq_eq_false_iff_ne]; omega
  have q4 : (op == 4) = false := by rw [beq_eq_false_iff_ne]; omega
  have q5 : (op == 5) = false := by rw [beq_eq_false_iff_ne]; omega
  have q6 : (op == 6) = false := by rw [beq_eq_false_iff_ne]; omega
  have q7 : (op == 7) = false := by rw [beq_eq_false_iff_ne]; omega
  have q8 : (op == 8) = false := by rw [beq_eq_false_iff_ne]; omega
  have q9 : (op == 9) = false := by rw [beq_eq_false_iff_ne]; omega
  have q10 : (op == 10) = false := by rw [beq_eq_false_iff_ne]; omega
  have q11 : (op == 11) = false := by rw [beq_eq_false_iff_ne]; omega
  have q12 : (op == 12) = false := by rw [beq_eq_false_iff_ne]; omega
  have q13 : (op == 13) = false := by rw [beq_eq_false_iff_ne]; omega
  have q14 : (op == 14) = false := by rw [beq_eq_false_iff_ne]; omega
  have q15 : (op == 15) = false := by rw [beq_eq_false_iff_ne]; omega
  have q16 : (op == 16) = false := by rw [beq_eq_false_iff_ne]; omega
  have q17 : (op == 17) = false := by rw [beq_eq_false_iff_ne]; omega
  have q18 : (op == 18) = false := by rw [beq_eq_false_iff_ne]; omega
  have q19 : (op == 19) = false := by rw [beq_eq_false_iff_ne]; omega
  clear h
  go_enter Tryz.func86, Tryz.ntmps86
  go_wp2_with (first
    | (go_at_call 120; refine (register_any _ _).mono ?_; rintro e1 w1 ⟨rfl, rfl⟩)
    | (go_at_call 121; refine (byteWide_any _ _).mono ?_; rintro e1 w1 ⟨rfl, rfl⟩))
  go_ret
  exact ⟨rfl, (Below.refl _ _).alloc (Nat.le_refl _) _⟩
theorem may_any (op a b c n : Int) (w : World) :
    Calls Tryz.prog 86 #[.agg #[.int .i64 op, .int .i64 a, .int .i64 b, .int .i64 c], .int .i64 n] w fun e w' => e = .returned (.bool (mayB op a b c n)) ∧ Below w.heap.size w w' := by
  by_cases h : op < 0 ∨ 19 < op
  · exact may_no op a b c n w h
  · rcases op_cases h with h | h | h | h | h | h | h | h | h | h | h | h | h | h | h | h | h | h | h | h
    · exact may_g0 op a b c n w (by omega)
    · exact may_g1 op a b c n w (by omega)
    · exact may_g2 op a b c n w (by omega)
    · exact may_g2 op a b c n w (by omega)
    · exact may_g2 op a b c n w (by omega)
    · exact may_g2 op a b c n w (by omega)
    · exact may_g3 op a b c n w (by omega)
    · exact may_g4 op a b c n w (by omega)
    · exact may_g0 op a b c n w (by omega)
    · exact may_g0 op a b c n w (by omega)
    · exact may_g1 op a b c n w (by omega)
    · exact may_g5 op a b c n w (by omega)
    · exact may_g0 op a b c n w (by omega)
    · exact may_g2 op a b c n w (by omega)
    · exact may_g5 op a b c n w (by omega)
    · exact may_g6 op a b c n w (by omega)
    · exact may_g6 op a b c n w (by omega)
    · exact may_g6 op a b c n w (by omega)
    · exact may_g6 op a b c n w (by omega)
    · exact may_g2 op a b c n w (by omega)
end Go.Proofs.YtjikemhmnkckcabGreat
