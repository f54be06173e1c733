import Derived.Test.YtjikemhmnkckcabGreatJ26
import Derived.Test.YtjikemhmnkckcabGreatJ28
import Derived.Deep.Cut
import Derived.Test.YtjikemhmnkckcabGreatJ4
import Derived.WalkLawsBesides
import Derived.Deep.RegionHeld3
import Derived.Deep.AppendLies
import Derived.Deep.DrawnRows
import Derived.Deep.RegionLaw
/- Explain and Blame of a script: the lists are their owner's. -/
namespace Go.Proofs.YtjikemhmnkckcabGreat
open Go.RowKit

theorem blk_set10b {w : World} {b : Nat} {t : TypeId} {r : Rpt} {v : Value} (h : Blk w b t (rptCells r v)) (r' : Rpt) (v' : Value) :
    Blk ((((((((((w.setCell ⟨b, 0, none⟩ (.int .i64 r'.err)).setCell ⟨b, 1, none⟩ (.int .i64 r'.addr)).setCell ⟨b, 2, none⟩ (.int .i64 r'.want)).setCell ⟨b, 3, none⟩ (.int .i64 r'.found)).setCell ⟨b, 4, none⟩ (.int .i64 r'.state)).setCell ⟨b, 5, none⟩ (.int .i64 r'.cls)).setCell ⟨b, 6, none⟩ (.int .i64 r'.slot)).setCell ⟨b, 7, none⟩ (.int .i64 r'.alloc)).setCell ⟨b, 8, none⟩ (.int .i64 r'.gone)).setCell ⟨b, 9, none⟩ v') b t (rptCells r' v') :=
  ((((((((((h.setCell 0 (.int .i64 r'.err)).setCell 1 (.int .i64 r'.addr)).setCell 2 (.int .i64 r'.want)).setCell 3 (.int .i64 r'.found)).setCell 4 (.int .i64 r'.state)).setCell 5 (.int .i64 r'.cls)).setCell 6 (.int .i64 r'.slot)).setCell 7 (.int .i64 r'.alloc)).setCell 8 (.int .i64 r'.gone)).setCell 9 v')

/-- a report in memory, made since w0 -/
structure RptAt (w0 : World) (r : Rpt) (rb : Nat) (v : Value) (wr : World) : Prop where
  blk : Blk wr rb 26 (rptCells r v)
  near : NearRel w0 r.near v wr
  fresh : w0.heap.size ≤ rb
theorem RptAt.later {w0 wr w' : World} {r : Rpt} {rb : Nat} {v : Value} (h : RptAt w0 r rb v wr) (b : Below wr.heap.size wr w') : RptAt w0 r rb v w' := ⟨h.blk.below b h.blk.lt, h.near.later b, h.fresh⟩
theorem RptAt.behind {w0 w1 : World} {r : Rpt} {na : Option Addr} {ncap : Nat} (h : NearRel w0 r.near (.slice na r.near.length ncap) w1) : RptAt w0 r w1.heap.size (.slice na r.near.length ncap) (w1.alloc (.cells (rptCells r (.slice na r.near.length ncap)).toArray 26)) :=
  ⟨Blk.alloc w1 _ _, h.later ((Below.refl _ _).alloc (Nat.le_refl _) _), h.below.size⟩
theorem RptAt.ahead {w0 w1 : World} {r : Rpt} {na : Option Addr} {ncap : Nat} (hz : Blk w1 w0.heap.size 26 (rptCells (Rpt.only 0) (.slice none 0 0))) (hb : Below w0.heap.size w0 w1) (hr : w1.ownsRow 0 64 3 (.slice na r.near.length ncap) r.near.length (r.near.flatMap nearCells)) (hv : ∀ g, (Value.slice na r.near.length ncap).ownBlock = some g → w0.heap.size + 1 ≤ g) :
    RptAt w0 r w0.heap.size (.slice na r.near.length ncap) ((((((((((w1.setCell ⟨w0.heap.size, 0, none⟩ (.int .i64 r.err)).setCell ⟨w0.heap.size, 1, none⟩ (.int .i64 r.addr)).setCell ⟨w0.heap.size, 2, none⟩ (.int .i64 r.want)).setCell ⟨w0.heap.size, 3, none⟩ (.int .i64 r.found)).setCell ⟨w0.heap.size, 4, none⟩ (.int .i64 r.state)).setCell ⟨w0.heap.size, 5, none⟩ (.int .i64 r.cls)).setCell ⟨w0.heap.size, 6, none⟩ (.int .i64 r.slot)).setCell ⟨w0.heap.size, 7, none⟩ (.int .i64 r.alloc)).setCell ⟨w0.heap.size, 8, none⟩ (.int .i64 r.gone)).setCell ⟨w0.heap.size, 9, none⟩ (.slice na r.near.length ncap)) :=
  ⟨blk_set10b hz r _, ⟨below_set10 hb (Nat.le_refl _) _ _ _ _ _ _ _ _ _ _, row_kept hr (fun g hg => heap_set10 w1 (by have := hv g hg; omega) _ _ _ _ _ _ _ _ _ _), fun g hg => by have := hv g hg; omega⟩, Nat.le_refl _⟩

end Go.Proofs.YtjikemhmnkckcabGreat
/- For the images: a configuration in memory, on both sides, is in CodeConf and what it imports. -/
/- An instruction that may stand in a program, on both sides. -/
namespace Go.Proofs.YtjikemhmnkckcabGreat
open Go.RowKit

/-- the letters of an operation: R 82, B 66, T 84, Z 90 -/
def opKinds (op : Int) : List Nat :=
  if op = 0 ∨ op = 8 ∨ op = 9 ∨ op = 12 then [82, 90, 90]
  else if op = 1 ∨ op = 10 then [82, 66, 66]
  else if op = 2 ∨ op = 3 ∨ op = 4 ∨ op = 5 ∨ op = 13 ∨ op = 19 then [82, 82, 82]
  else if op = 6 then [84, 90, 90]
  else if op = 7 then [82, 84, 90]
  else if op = 11 ∨ op = 14 then [82, 82, 90]
  else if op = 15 ∨ op = 16 ∨ op = 17 ∨ op = 18 then [82, 82, 66]
  else []
def kindB (k : Int) (v n : Int) : Bool := if k = 82 then withinB v 0 7 else if k = 66 then withinB v 0 255 else if k = 84 then withinB v 0 (n - 1) else withinB v 0 0
def mayB (op a b c n : Int) : Bool := match opKinds op with
  | [x, y, z] => kindB x a n && kindB y b n && kindB z c n
  | _ => false
def kindsV (op : Int) : Value := .string ⟨((opKinds op).map UInt8.ofNat).toArray⟩
theorem opKinds_none {op : Int} (h : op < 0 ∨ 19 < op) : opKinds op = [] := by
  unfold opKinds
  rw [if_neg (by omega), if_neg (by omega), if_neg (by omega), if_neg (by omega), if_neg (by omega), if_neg (by omega), if_neg (by omega)]
theorem op_cases {op : Int} (h : ¬ (op < 0 ∨ 19 < op)) : op = 0 ∨ op = 1 ∨ op = 2 ∨ op = 3 ∨ op = 4 ∨ op = 5 ∨ op = 6 ∨ op = 7 ∨ op = 8 ∨ op = 9 ∨ op = 10 ∨ op = 11 ∨ op = 12 ∨ op = 13 ∨ op = 14 ∨ op = 15 ∨ op = 16 ∨ op = 17 ∨ op = 18 ∨ op = 19 := by omega

set_option maxRecDepth 100000 in
set_option maxHeartbeats 1600000 in
theorem operands_any (op : Int) (w : World) : Calls Tryz.prog 74 #[.int .i64 op] w fun e w' => e = .returned (kindsV op) ∧ w = w' := by
  by_cases h : op < 0 ∨ 19 < op
  · have HF : Hid (kindsV op = .string ⟨#[]⟩) := by show _ = _; unfold kindsV; rw [opKinds_none h]; rfl
    have q0 : (op == 0) = false := by rw [beq_eq_false_iff_ne]; omega
    have q1 : (op == 1) = false := by rw [beq_eq_false_iff_ne]; omega
    have q2 : (op == 2) = false := by rw [beq_eq_false_iff_ne]; omega
    have q3 : (op == 3) = false := by rw [beq_eq_false_iff_ne]; omega
    have q4 : (op == 4) = false := by rw [beq_eq_false_iff_ne]; omega
    have q5 : (op == 5) = false := by rw [beq_eq_false_iff_ne]; omega
    have q6 : (op == 6) = false := by rw [beq_eq_false_iff_ne]; omega
    have q7 : (op == 7) = false := by rw [beq_eq_false_iff_ne]; omega
    have q8 : (op == 8) = false := by rw [beq_eq_false_iff_ne]; omega
    have q9 : (op == 9) = false := by rw [beq_eq_false_iff_ne]; omega
    have q10 : (op == 10) = false := by rw [beq_eq_false_iff_ne]; omega
    have q11 : (op == 11) = false := by rw [beq_eq_false_iff_ne]; omega
    have q12 : (op == 12) = false := by rw [beq_eq_false_iff_ne]; omega
    have q13 : (op == 13) = false := by rw [beq_eq_false_iff_ne]; omega
    have q14 : (op == 14) = false := by rw [beq_eq_false_iff_ne]; omega
    have q15 : (op == 15) = false := by rw [beq_eq_false_iff_ne]; omega
    have q16 : (op == 16) = false := by rw [beq_eq_false_iff_ne]; omega
    have q17 : (op == 17) = false := by rw [beq_eq_false_iff_ne]; omega
    have q18 : (op == 18) = false := by rw [beq_eq_false_iff_ne]; omega
    have q19 : (op == 19) = false := by rw [beq_eq_false_iff_ne]; omega
    clear h
    go_enter Tryz.func74, Tryz.ntmps74
    go_wp2
    go_ret
    exact ⟨by rw [HF.out]; rfl, rfl⟩
  · rcases op_cases h with rfl | rfl | rfl | rfl | rfl | rfl | rfl | rfl | rfl | rfl | rfl | rfl | rfl | rfl | rfl | rfl | rfl | rfl | rfl | rfl
    all_goals
      clear h
      go_enter Tryz.func74, Tryz.ntmps74
      go_wp2
      go_ret
      exact ⟨rfl, rfl⟩

set_option maxRecDepth 100000 in
set_option maxHeartbeats 1600000 in
theorem validOperand_any (k v n : Int) (w : World) (n0 : -9223372036854775807 ≤ n) (n1 : n ≤ 9223372036854775807) : Calls Tryz.prog 75 #[.int .u8 k, .int .i64 v, .int .i64 n] w fun e w' => e = .returned (.bool (kindB k v n)) ∧ w = w' := by
  have HF : Hid (kindB k v n = if k = 82 then withinB v 0 7 else if k = 66 then withinB v 0 255 else if k = 84 then withinB v 0 (n - 1) else withinB v 0 0) := rfl
  generalize kindB k v n = res at *
  by_cases c1 : k = 82
  · rw [if_pos c1] at HF
    subst c1
    go_enter Tryz.func75, Tryz.ntmps75
    go_wp2_with (go_at_call 52; refine (within_any v 0 7 _).mono ?_; rintro e1 w1 ⟨rfl, rfl⟩)
    go_ret
    exact ⟨by rw [HF.out]; rfl, rfl⟩
  · rw [if_neg c1] at HF
    have b1 : (k == 82) = false := by rw [beq_eq_false_iff_ne]; exact c1
    by_cases c2 : k = 66
    · rw [if_pos c2] at HF
      subst c2
      go_enter Tryz.func75, Tryz.ntmps75
      go_wp2_with (go_at_call 52; refine (within_any v 0 255 _).mono ?_; rintro e1 w1 ⟨rfl, rfl⟩)
      go_ret
      exact ⟨by rw [HF.out]; rfl, rfl⟩
    · rw [if_neg c2] at HF
      have b2 : (k == 66) = false := by rw [beq_eq_false_iff_ne]; exact c2
      by_cases c3 : k = 84
      · rw [if_pos c3] at HF
        subst c3
        go_enter Tryz.func75, Tryz.ntmps75
        go_wp2_with (go_at_call 52; refine (within_any v 0 (n - 1) _).mono ?_; rintro e1 w1 ⟨rfl, rfl⟩)
        go_ret
        exact ⟨by rw [HF.out]; rfl, rfl⟩
      · rw [if_neg c3] at HF
        have b3 : (k == 84) = false := by rw [beq_eq_false_iff_ne]; exact c3
        clear c1 c2 c3
        go_enter Tryz.func75, Tryz.ntmps75
        go_wp2_with (go_at_call 52; refine (within_any v 0 0 _).mono ?_; rintro e1 w1 ⟨rfl, rfl⟩)
        go_ret
        exact ⟨by rw [HF.out]; rfl, rfl⟩
end Go.Proofs.YtjikemhmnkckcabGreat
/- validInstr. -/
namespace Go.Proofs.YtjikemhmnkckcabGreat
open Go.RowKit

theorem opKinds_some {op : Int} (h : ¬ (op < 0 ∨ 19 < op)) : opKinds op = [82, 90, 90] ∨ opKinds op = [82, 66, 66] ∨ opKinds op = [82, 82, 82] ∨ opKinds op = [84, 90, 90] ∨ opKinds op = [82, 84, 90] ∨ opKinds op = [82, 82, 90] ∨ opKinds op = [82, 82, 66] := by
  rcases op_cases h with rfl | rfl | rfl | rfl | rfl | rfl | rfl | rfl | rfl | rfl | rfl | rfl | rfl | rfl | rfl | rfl | rfl | rfl | rfl | rfl <;> decide
/-- what is still to be looked at -/
def restB (x y z a b c n : Int) (m : Nat) : Bool := (decide (0 < m) || kindB x a n) && (decide (1 < m) || kindB y b n) && (decide (2 < m) || kindB z c n)

set_option maxRecDepth 100000 in
set_option maxHeartbeats 1600000 in
theorem validInstr_no (op a b c n : Int) (w : World) (h : op < 0 ∨ 19 < op) :
    Calls Tryz.prog 53 #[.agg #[.int .i64 op, .int .i64 a, .int .i64 b, .int .i64 c], .int .i64 n] w fun e w' => e = .returned (.bool (mayB op a b c n)) ∧ Below w.heap.size w w' := by
  have HM : Hid (mayB op a b c n = false) := by show _ = _; unfold mayB; rw [opKinds_none h]
  have HK : Hid (kindsV op = .string ⟨#[]⟩) := by show _ = _; unfold kindsV; rw [opKinds_none h]; rfl
  rw [HM.out]
  clear h
  go_enter Tryz.func53, Tryz.ntmps53
  go_wp2_with (go_at_call 74; refine (operands_any op _).mono ?_; rw [HK.out]; rintro e2 w2 ⟨rfl, rfl⟩)
  go_ret
  exact ⟨rfl, ((Below.refl _ _).alloc (Nat.le_refl _) _).alloc (by simp) _⟩

set_option maxRecDepth 100000 in
set_option maxHeartbeats 3200000 in
theorem validInstr_at (op a b c n : Int) (x y z : Nat) (w : World) (n0 : 0 ≤ n) (n1 : n ≤ 9223372036854775807) (hx : x < 256) (hy : y < 256) (hz : z < 256) (hk : opKinds op = [x, y, z]) :
    Calls Tryz.prog 53 #[.agg #[.int .i64 op, .int .i64 a, .int .i64 b, .int .i64 c], .int .i64 n] w fun e w' => e = .returned (.bool (mayB op a b c n)) ∧ Below w.heap.size w w' := by
  have HM : Hid (mayB op a b c n = restB x y z a b c n 0) := by show _ = _; unfold mayB restB; rw [hk]; simp
  have HK : Hid (kindsV op = .string ⟨#[UInt8.ofNat x, UInt8.ofNat y, UInt8.ofNat z]⟩) := by show _ = _; unfold kindsV; rw [hk]; rfl
  have hux : (((UInt8.ofNat x).toNat : Nat) : Int) = (x : Int) := by rw [UInt8.toNat_ofNat']; omega
  have huy : (((UInt8.ofNat y).toNat : Nat) : Int) = (y : Int) := by rw [UInt8.toNat_ofNat']; omega
  have huz : (((UInt8.ofNat z).toNat : Nat) : Int) = (z : Int) := by rw [UInt8.toNat_ofNat']; omega
  generalize mayB op a b c n = res at *
  clear hk
  go_enter Tryz.func53, Tryz.ntmps53
  go_wp2_with fail
  obtain ⟨w1, hw1⟩ : ∃ w1, w1 = (w.alloc (.cells #[.int .i64 op, .int .i64 a, .int .i64 b, .int .i64 c] 60)).alloc (.cells #[.int .i64 a, .int .i64 b, .int .i64 c] 143) := ⟨_, rfl⟩
  rw [← hw1]
  have hb1 : Below w.heap.size w w1 := by rw [hw1]; exact ((Below.refl _ _).alloc (Nat.le_refl _) _).alloc (by simp) _
  have HG : Hid (Blk w1 (w.heap.size + 1) 143 [.int .i64 a, .int .i64 b, .int .i64 c]) := by
    show Blk _ _ _ _
    rw [hw1]
    have := Blk.alloc (w.alloc (.cells #[.int .i64 op, .int .i64 a, .int .i64 b, .int .i64 c] 60)) 143 [.int .i64 a, .int .i64 b, .int .i64 c]
    rw [World.size_alloc] at this
    exact this
  have HB1 := hide2 hb1
  obtain ⟨gb, hgb⟩ : ∃ gb, gb = w.heap.size + 1 := ⟨_, rfl⟩
  rw [← hgb] at HG ⊢
  clear hw1 hb1 hgb
  refine (operands_any op w1).mono ?_
  rw [HK.out]
  rintro e2 w2 ⟨rfl, rfl⟩
  go_wp2
  go_loopw [7] (fun i wr => ∃ m : Nat, m ≤ 3 ∧ i = .int .i64 (m : Int) ∧ Below w.heap.size w wr ∧ Hid (Blk wr gb 143 [.int .i64 a, .int .i64 b, .int .i64 c]) ∧ Hid (res = restB x y z a b c n m)) (fun i _ => 3 - (intOf i).toNat)
  case atStart => exact ⟨0, by omega, rfl, HB1.out, HG, HM⟩
  case round =>
    obtain ⟨m, hm, rfl, hb, HGR, HRS⟩ := hrel
    have HB := hide2 hb
    have hgl := HGR.out.lt
    have a0 := HGR.out.cell (j := 0) rfl
    have a1 := HGR.out.cell (j := 1) rfl
    have a2 := HGR.out.cell (j := 2) rfl
    clear hb
    by_cases h3 : m = 3
    · subst h3
      have HT : Hid (res = true) := by show _ = _; rw [HRS.out]; rfl
      go_wp2
      go_ret
      exact ⟨by rw [HT.out]; rfl, HB.out⟩
    · by_cases h0 : m = 0
      · subst h0
        cases hv : kindB x a n
        · have HT : Hid (res = false) := by show _ = _; rw [HRS.out]; unfold restB; rw [hv]; simp
          have HVx : Hid (kindB (((UInt8.ofNat x).toNat : Nat) : Int) a n = false) := by show _ = _; rw [hux]; exact hv
          clear hv
          go_wp2_with fail
          go_quiet (first | (go_at_call 75; refine Calls.quiet_of_same ((validOperand_any _ a n _ (by omega) n1).mono (fun _ _ h => ⟨h.1.trans (congrArg (fun b => Ending.returned (Value.bool b)) (HVx.out)), h.2.symm⟩))))
          go_wp2
          go_ret
          exact ⟨by rw [HT.out]; rfl, below_drewN HB.out _⟩
        · have HT : Hid (res = restB x y z a b c n 1) := by show _ = _; rw [HRS.out]; unfold restB; rw [hv]; simp
          have HVx : Hid (kindB (((UInt8.ofNat x).toNat : Nat) : Int) a n = true) := by show _ = _; rw [hux]; exact hv
          clear hv
          go_wp2_with fail
          go_quiet (first | (go_at_call 75; refine Calls.quiet_of_same ((validOperand_any _ a n _ (by omega) n1).mono (fun _ _ h => ⟨h.1.trans (congrArg (fun b => Ending.returned (Value.bool b)) (HVx.out)), h.2.symm⟩))))
          go_wp2
          go_roundw
          case rel => exact ⟨1, by omega, by go_num, below_drewN HB.out _, HGR.out.below (below_drewN (Below.refl wr.heap.size wr) _) hgl, HT⟩
          case measure => simp [intOf]
      · by_cases h1 : m = 1
        · subst h1
          cases hv : kindB y b n
          · have HT : Hid (res = false) := by show _ = _; rw [HRS.out]; unfold restB; rw [hv]; simp
            have HVy : Hid (kindB (((UInt8.ofNat y).toNat : Nat) : Int) b n = false) := by show _ = _; rw [huy]; exact hv
            clear hv
            go_wp2_with fail
            go_quiet (first | (go_at_call 75; refine Calls.quiet_of_same ((validOperand_any _ b n _ (by omega) n1).mono (fun _ _ h => ⟨h.1.trans (congrArg (fun b => Ending.returned (Value.bool b)) (HVy.out)), h.2.symm⟩))))
            go_wp2
            go_ret
            exact ⟨by rw [HT.out]; rfl, below_drewN HB.out _⟩
          · have HT : Hid (res = restB x y z a b c n 2) := by show _ = _; rw [HRS.out]; unfold restB; rw [hv]; simp
            have HVy : Hid (kindB (((UInt8.ofNat y).toNat : Nat) : Int) b n = true) := by show _ = _; rw [huy]; exact hv
            clear hv
            go_wp2_with fail
            go_quiet (first | (go_at_call 75; refine Calls.quiet_of_same ((validOperand_any _ b n _ (by omega) n1).mono (fun _ _ h => ⟨h.1.trans (congrArg (fun b => Ending.returned (Value.bool b)) (HVy.out)), h.2.symm⟩))))
            go_wp2
            go_roundw
            case rel => exact ⟨2, by omega, by go_num, below_drewN HB.out _, HGR.out.below (below_drewN (Below.refl wr.heap.size wr) _) hgl, HT⟩
            case measure => simp [intOf]
        · obtain rfl : m = 2 := by omega
          cases hv : kindB z c n
          · have HT : Hid (res = false) := by show _ = _; rw [HRS.out]; unfold restB; rw [hv]; simp
            have HVz : Hid (kindB (((UInt8.ofNat z).toNat : Nat) : Int) c n = false) := by show _ = _; rw [huz]; exact hv
            clear hv
            go_wp2_with fail
            go_quiet (first | (go_at_call 75; refine Calls.quiet_of_same ((validOperand_any _ c n _ (by omega) n1).mono (fun _ _ h => ⟨h.1.trans (congrArg (fun b => Ending.returned (Value.bool b)) (HVz.out)), h.2.symm⟩))))
            go_wp2
            go_ret
            exact ⟨by rw [HT.out]; rfl, below_drewN HB.out _⟩
          · have HT : Hid (res = restB x y z a b c n 3) := by show _ = _; rw [HRS.out]; unfold restB; rw [hv]; simp
            have HVz : Hid (kindB (((UInt8.ofNat z).toNat : Nat) : Int) c n = true) := by show _ = _; rw [huz]; exact hv
            clear hv
            go_wp2_with fail
            go_quiet (first | (go_at_call 75; refine Calls.quiet_of_same ((validOperand_any _ c n _ (by omega) n1).mono (fun _ _ h => ⟨h.1.trans (congrArg (fun b => Ending.returned (Value.bool b)) (HVz.out)), h.2.symm⟩))))
            go_wp2
            go_roundw
            case rel => exact ⟨3, by omega, by go_num, below_drewN HB.out _, HGR.out.below (below_drewN (Below.refl wr.heap.size wr) _) hgl, HT⟩
            case measure => simp [intOf]

theorem validInstr_any (op a b c n : Int) (w : World) (n0 : 0 ≤ n) (n1 : n ≤ 9223372036854775807) :
    Calls Tryz.prog 53 #[.agg #[.int .i64 op, .int .i64 a, .int .i64 b, .int .i64 c], .int .i64 n] w fun e w' => e = .returned (.bool (mayB op a b c n)) ∧ Below w.heap.size w w' := by
  by_cases h : op < 0 ∨ 19 < op
  · exact validInstr_no op a b c n w h
  · rcases opKinds_some h with hk | hk | hk | hk | hk | hk | hk
    all_goals exact validInstr_at op a b c n _ _ _ w n0 n1 (by decide) (by decide) (by decide) hk
end Go.Proofs.YtjikemhmnkckcabGreat
