import Derived.Test.YtjikemhmnkckcabImgMay
/- validInstr. -/
namespace Go.Proofs.Ytjikemhmnkckcab
open Go.RowKit

theorem opKinds_some {op : Int} (h : ¬ (op < 0 ∨ 19 < op)) : opKinds op = [82, 90, 90] ∨ opKinds op = [82, 66, 66] ∨ opKinds op = [82, 82, 82] ∨ opKinds op = [84, 90, 90] ∨ opKinds op = [82, 84, 90] ∨ opKinds op = [82, 82, 90] ∨ opKinds op = [82, 82, 66] := by
  rcases op_cases h with rfl | rfl | rfl | rfl | rfl | rfl | rfl | rfl | rfl | rfl | rfl | rfl | rfl | rfl | rfl | rfl | rfl | rfl | rfl | rfl <;> decide
/-- what is still to be looked at -/
def restB (x y z a b c n : Int) (m : Nat) : Bool := (decide (0 < m) || kindB x a n) && (decide (1 < m) || kindB y b n) && (decide (2 < m) || kindB z c n)

set_option maxRecDepth 100000 in
set_option maxHeartbeats 1600000 in
theorem validInstr_no (op a b c n : Int) (w : World) (h : op < 0 ∨ 19 < op) :
    Calls Try.prog 43 #[.agg #[.int .i64 op, .int .i64 a, .int .i64 b, .int .i64 c], .int .i64 n] w fun e w' => e = .returned (.bool (mayB op a b c n)) ∧ Below w.heap.size w w' := by
  have HM : Hid (mayB op a b c n = false) := by show _ = _; unfold mayB; rw [opKinds_none h]
  have HK : Hid (kindsV op = .string ⟨#[]⟩) := by show _ = _; unfold kindsV; rw [opKinds_none h]; rfl
  rw [HM.out]
  clear h
  go_enter Try.func43, Try.ntmps43
  go_wp2_with (go_at_call 50; refine (operands_any op _).mono ?_; rw [HK.out]; rintro e2 w2 ⟨rfl, rfl⟩)
  go_ret
  exact ⟨rfl, ((Below.refl _ _).alloc (Nat.le_refl _) _).alloc (by simp) _⟩

set_option maxRecDepth 100000 in
set_option maxHeartbeats 3200000 in
theorem validInstr_at (op a b c n : Int) (x y z : Nat) (w : World) (n0 : 0 ≤ n) (n1 : n ≤ 9223372036854775807) (hx : x < 256) (hy : y < 256) (hz : z < 256) (hk : opKinds op = [x, y, z]) :
    Calls Try.prog 43 #[.agg #[.int .i64 op, .int .i64 a, .int .i64 b, .int .i64 c], .int .i64 n] w fun e w' => e = .returned (.bool (mayB op a b c n)) ∧ Below w.heap.size w w' := by
  have HM : Hid (mayB op a b c n = restB x y z a b c n 0) := by show _ = _; unfold mayB restB; rw [hk]; simp
  have HK : Hid (kindsV op = .string ⟨#[UInt8.ofNat x, UInt8.ofNat y, UInt8.ofNat z]⟩) := by show _ = _; unfold kindsV; rw [hk]; rfl
  have hux : (((UInt8.ofNat x).toNat : Nat) : Int) = (x : Int) := by rw [UInt8.toNat_ofNat']; omega
  have huy : (((UInt8.ofNat y).toNat : Nat) : Int) = (y : Int) := by rw [UInt8.toNat_ofNat']; omega
  have huz : (((UInt8.ofNat z).toNat : Nat) : Int) = (z : Int) := by rw [UInt8.toNat_ofNat']; omega
  generalize mayB op a b c n = res at *
  clear hk
  go_enter Try.func43, Try.ntmps43
  go_wp2_with fail
  obtain ⟨w1, hw1⟩ : ∃ w1, w1 = (w.alloc (.cells #[.int .i64 op, .int .i64 a, .int .i64 b, .int .i64 c] 35)).alloc (.cells #[.int .i64 a, .int .i64 b, .int .i64 c] 88) := ⟨_, rfl⟩
  rw [← hw1]
  have hb1 : Below w.heap.size w w1 := by rw [hw1]; exact ((Below.refl _ _).alloc (Nat.le_refl _) _).alloc (by simp) _
  have HG : Hid (Blk w1 (w.heap.size + 1) 88 [.int .i64 a, .int .i64 b, .int .i64 c]) := by
    show Blk _ _ _ _
    rw [hw1]
    have := Blk.alloc (w.alloc (.cells #[.int .i64 op, .int .i64 a, .int .i64 b, .int .i64 c] 35)) 88 [.int .i64 a, .int .i64 b, .int .i64 c]
    rw [World.size_alloc] at this
    exact this
  have HB1 := hide2 hb1
  obtain ⟨gb, hgb⟩ : ∃ gb, gb = w.heap.size + 1 := ⟨_, rfl⟩
  rw [← hgb] at HG ⊢
  clear hw1 hb1 hgb
  refine (operands_any op w1).mono ?_
  rw [HK.out]
  rintro e2 w2 ⟨rfl, rfl⟩
  go_wp2
  go_loopw [7] (fun i wr => ∃ m : Nat, m ≤ 3 ∧ i = .int .i64 (m : Int) ∧ Below w.heap.size w wr ∧ Hid (Blk wr gb 88 [.int .i64 a, .int .i64 b, .int .i64 c]) ∧ Hid (res = restB x y z a b c n m)) (fun i _ => 3 - (intOf i).toNat)
  case atStart => exact ⟨0, by omega, rfl, HB1.out, HG, HM⟩
  case round =>
    obtain ⟨m, hm, rfl, hb, HGR, HRS⟩ := hrel
    have HB := hide2 hb
    have hgl := HGR.out.lt
    have a0 := HGR.out.cell (j := 0) rfl
    have a1 := HGR.out.cell (j := 1) rfl
    have a2 := HGR.out.cell (j := 2) rfl
    clear hb
    by_cases h3 : m = 3
    · subst h3
      have HT : Hid (res = true) := by show _ = _; rw [HRS.out]; rfl
      go_wp2
      go_ret
      exact ⟨by rw [HT.out]; rfl, HB.out⟩
    · by_cases h0 : m = 0
      · subst h0
        cases hv : kindB x a n
        · have HT : Hid (res = false) := by show _ = _; rw [HRS.out]; unfold restB; rw [hv]; simp
          have HVx : Hid (kindB (((UInt8.ofNat x).toNat : Nat) : Int) a n = false) := by show _ = _; rw [hux]; exact hv
          clear hv
          go_wp2_with fail
          go_quiet (first | (go_at_call 51; refine Calls.quiet_of_same ((validOperand_any _ a n _ (by omega) n1).mono (fun _ _ h => ⟨h.1.trans (congrArg (fun b => Ending.returned (Value.bool b)) (HVx.out)), h.2.symm⟩))))
          go_wp2
          go_ret
          exact ⟨by rw [HT.out]; rfl, below_drewN HB.out _⟩
        · have HT : Hid (res = restB x y z a b c n 1) := by show _ = _; rw [HRS.out]; unfold restB; rw [hv]; simp
          have HVx : Hid (kindB (((UInt8.ofNat x).toNat : Nat) : Int) a n = true) := by show _ = _; rw [hux]; exact hv
          clear hv
          go_wp2_with fail
          go_quiet (first | (go_at_call 51; refine Calls.quiet_of_same ((validOperand_any _ a n _ (by omega) n1).mono (fun _ _ h => ⟨h.1.trans (congrArg (fun b => Ending.returned (Value.bool b)) (HVx.out)), h.2.symm⟩))))
          go_wp2
          go_roundw
          case rel => exact ⟨1, by omega, by go_num, below_drewN HB.out _, HGR.out.below (below_drewN (Below.refl wr.heap.size wr) _) hgl, HT⟩
          case measure => simp [intOf]
      · by_cases h1 : m = 1
        · subst h1
          cases hv : kindB y b n
          · have HT : Hid (res = false) := by show _ = _; rw [HRS.out]; unfold restB; rw [hv]; simp
            have HVy : Hid (kindB (((UInt8.ofNat y).toNat : Nat) : Int) b n = false) := by show _ = _; rw [huy]; exact hv
            clear hv
            go_wp2_with fail
            go_quiet (first | (go_at_call 51; refine Calls.quiet_of_same ((validOperand_any _ b n _ (by omega) n1).mono (fun _ _ h => ⟨h.1.trans (congrArg (fun b => Ending.returned (Value.bool b)) (HVy.out)), h.2.symm⟩))))
            go_wp2
            go_ret
            exact ⟨by rw [HT.out]; rfl, below_drewN HB.out _⟩
          · have HT : Hid (res = restB x y z a b c n 2) := by show _ = _; rw [HRS.out]; unfold restB; rw [hv]; simp
            have HVy : Hid (kindB (((UInt8.ofNat y).toNat : Nat) : Int) b n = true) := by show _ = _; rw [huy]; exact hv
            clear hv
            go_wp2_with fail
            go_quiet (first | (go_at_call 51; refine Calls.quiet_of_same ((validOperand_any _ b n _ (by omega) n1).mono (fun _ _ h => ⟨h.1.trans (congrArg (fun b => Ending.returned (Value.bool b)) (HVy.out)), h.2.symm⟩))))
            go_wp2
            go_roundw
            case rel => exact ⟨2, by omega, by go_num, below_drewN HB.out _, HGR.out.below (below_drewN (Below.refl wr.heap.size wr) _) hgl, HT⟩
            case measure => simp [intOf]
        · obtain rfl : m = 2 := by omega
          cases hv : kindB z c n
          · have HT : Hid (res = false) := by show _ = _; rw [HRS.out]; unfold restB; rw [hv]; simp
            have HVz : Hid (kindB (((UInt8.ofNat z).toNat : Nat) : Int) c n = false) := by show _ = _; rw [huz]; exact hv
            clear hv
            go_wp2_with fail
            go_quiet (first | (go_at_call 51; refine Calls.quiet_of_same ((validOperand_any _ c n _ (by omega) n1).mono (fun _ _ h => ⟨h.1.trans (congrArg (fun b => Ending.returned (Value.bool b)) (HVz.out)), h.2.symm⟩))))
            go_wp2
            go_ret
            exact ⟨by rw [HT.out]; rfl, below_drewN HB.out _⟩
          · have HT : Hid (res = restB x y z a b c n 3) := by show _ = _; rw [HRS.out]; unfold restB; rw [hv]; simp
            have HVz : Hid (kindB (((UInt8.ofNat z).toNat : Nat) : Int) c n = true) := by show _ = _; rw [huz]; exact hv
            clear hv
            go_wp2_with fail
            go_quiet (first | (go_at_call 51; refine Calls.quiet_of_same ((validOperand_any _ c n _ (by omega) n1).mono (fun _ _ h => ⟨h.1.trans (congrArg (fun b => Ending.returned (Value.bool b)) (HVz.out)), h.2.symm⟩))))
            go_wp2
            go_roundw
            case rel => exact ⟨3, by omega, by go_num, below_drewN HB.out _, HGR.out.below (below_drewN (Below.refl wr.heap.size wr) _) hgl, HT⟩
            case measure => simp [intOf]

theorem validInstr_any (op a b c n : Int) (w : World) (n0 : 0 ≤ n) (n1 : n ≤ 9223372036854775807) :
    Calls Try.prog 43 #[.agg #[.int .i64 op, .int .i64 a, .int .i64 b, .int .i64 c], .int .i64 n] w fun e w' => e = .returned (.bool (mayB op a b c n)) ∧ Below w.heap.size w w' := by
  by_cases h : op < 0 ∨ 19 < op
  · exact validInstr_no op a b c n w h
  · rcases opKinds_some h with hk | hk | hk | hk | hk | hk | hk
    all_goals exact validInstr_at op a b c n _ _ _ w n0 n1 (by decide) (by decide) (by decide) hk
end Go.Proofs.Ytjikemhmnkckcab
