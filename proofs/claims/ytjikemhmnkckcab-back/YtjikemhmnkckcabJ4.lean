import Derived.Test.YtjikemhmnkckcabJ2
import Derived.Test.YtjikemhmnkckcabJ3
namespace Go.Proofs.Ytjikemhmnkckcab
open Go.RowKit

/-- class i, as granuleref.Valid looks at it -/
theorem entry_no {cls : List (Int × Int)} {st rest : Int} {m : Nat} (hm : m < cls.length) (h : Cf.entryB cls m = false) : Cf.validB st rest cls = false := by
  simp [Cf.validB, Cf.allTo_false _ hm h]

set_option maxHeartbeats 1000000 in
theorem valid_any (st rest : Int) (a : Option Addr) (cap : Nat) (cls : List (Int × Int)) (w : World) (h : CRow w a cap cls) :
    Calls Try.prog 44 #[.agg #[.int .i64 st, .int .i64 rest, .slice a cls.length cap]] w fun e w' => e = .returned (.bool (Cf.validB st rest cls)) ∧ Below w.heap.size w w' := by
  have hlen := h.len
  have hcap := h.cap
  unfold maxLen at hcap
  have HC : Hid (CCells w a cls) := h.cells
  clear h
  cases hh : Cf.headB st rest
  · have hvb : Hid (Cf.validB st rest cls = false) := by show _ = _; simp [Cf.validB, hh]
    have hno : st < 0 ∨ 16 < st ∨ rest < 0 ∨ 16 < rest := by
      by_cases h1 : 0 ≤ st <;> by_cases h2 : st ≤ 16 <;> by_cases h3 : 0 ≤ rest <;> by_cases h4 : rest ≤ 16 <;> simp [Cf.headB, h1, h2, h3, h4] at hh <;> omega
    clear hh
    go_enter Try.func44, Try.ntmps44
    go_wp2
    all_goals
      go_ret
      exact ⟨ret_bool hvb.out.symm, (Below.refl _ _).alloc (Nat.le_refl _) _⟩
  · have hyes : 0 ≤ st ∧ st ≤ 16 ∧ 0 ≤ rest ∧ rest ≤ 16 := by
      simp only [Cf.headB, Bool.and_eq_true, decide_eq_true_eq] at hh; omega
    obtain ⟨y1, y2, y3, y4⟩ := hyes
    have hvb : Hid (Cf.validB st rest cls = (Cf.allTo (Cf.entryB cls) cls.length && decide (0 < cls.length))) := by show _ = _; simp [Cf.validB, hh]
    clear hh
    go_enter Try.func44, Try.ntmps44
    go_wp2
    go_loopw [3] (fun i wr => ∃ m : Nat, m ≤ cls.length ∧ i = .int .i64 (m : Int) ∧ Hid (Cf.allTo (Cf.entryB cls) m = true) ∧ Below w.heap.size w wr ∧ w.heap.size < wr.heap.size ∧ wr.cell? ⟨w.heap.size, 2, none⟩ = some (.slice a cls.length cap)) (fun i _ => cls.length - (intOf i).toNat)
    case atStart => exact ⟨0, by omega, rfl, rfl, (Below.refl _ _).alloc (Nat.le_refl _) _, by simp, by simp⟩
    case round =>
      obtain ⟨m, hm, rfl, hall, hb, hsz, cc⟩ := hrel
      by_cases hlt : m < cls.length
      · obtain ⟨g, off, rfl, hgl, hcell⟩ := HC.out (by omega)
        obtain ⟨d0, d1⟩ := hcell m hlt
        have d0' := (hb.cell (p := ⟨g, off + m * 2, none⟩) hgl).trans d0
        have d1' := (hb.cell (p := ⟨g, off + m * 2 + 1, none⟩) hgl).trans d1
        have hent : Hid (Cf.entryB cls m = (decide (m < 4) && decide (1 ≤ Cf.gr cls m) && decide (Cf.gr cls m ≤ 8) && decide (1 ≤ Cf.sl cls m) && decide (Cf.sl cls m ≤ 16) && Cf.allTo (fun j => decide (Cf.gr cls j < Cf.gr cls m)) m)) := rfl
        have HG : Hid (∀ n, n < m → w.cell? ⟨g, off + n * 2, none⟩ = some (.int .i64 (Cf.gr cls n))) := fun n hn => (hcell n (by omega)).1
        clear HC d0 d1 hcell
        by_cases hq : m < 4 ∧ 1 ≤ Cf.gr cls m ∧ Cf.gr cls m ≤ 8 ∧ 1 ≤ Cf.sl cls m ∧ Cf.sl cls m ≤ 16
        · obtain ⟨q1, q2, q3, q4, q5⟩ := hq
          have hent2 : Hid (Cf.entryB cls m = Cf.allTo (fun j => decide (Cf.gr cls j < Cf.gr cls m)) m) := by show _ = _; rw [hent.out]; simp [q1, q2, q3, q4, q5]
          clear hent
          generalize Cf.gr cls m = x at *
          generalize Cf.sl cls m = y at *
          go_wp2
          go_loopw [5] (fun j wr2 => ∃ n : Nat, n ≤ m ∧ j = .int .i64 (n : Int) ∧ Hid (Cf.allTo (fun j => decide (Cf.gr cls j < x)) n = true) ∧ Below w.heap.size w wr2 ∧ w.heap.size < wr2.heap.size ∧ wr2.cell? ⟨w.heap.size, 2, none⟩ = some (.slice (some ⟨g, off, none⟩) cls.length cap) ∧ wr2.cell? ⟨wr.heap.size, 0, none⟩ = some (.int .i64 x)) (fun j _ => m - (intOf j).toNat)
          case atStart => exact ⟨0, by omega, rfl, rfl, hb.alloc hb.size _, by rw [World.size_alloc]; omega, by rw [World.cell?_alloc_lt _ _ _ hsz]; exact cc, by simp⟩
          case round =>
            obtain ⟨n, hn, rfl, hal2, hb2, hsz2, cc2, cx2⟩ := hrel
            clear cc d0' d1' hb hsz
            by_cases hlt2 : n < m
            · have e0 := (hb2.cell (p := ⟨g, off + n * 2, none⟩) hgl).trans (HG.out n hlt2)
              have hnx : Hid (Cf.allTo (fun j => decide (Cf.gr cls j < x)) (n + 1) = (Cf.allTo (fun j => decide (Cf.gr cls j < x)) n && decide (Cf.gr cls n < x))) := rfl
              have hfl : Hid (decide (Cf.gr cls n < x) = false → Cf.validB st rest cls = false) := fun hf => entry_no hlt (by rw [hent2.out]; exact Cf.allTo_false _ hlt2 hf)
              have i0 : (n : Int) < cls.length := by omega
              generalize Cf.gr cls n = z at *
              by_cases hz : z < x
              · go_wp2
                go_quiet (fail)
                go_wp2
                go_roundw
                case rel => exact ⟨n + 1, by omega, by go_num, hnx.out.trans (by rw [hal2.out]; simp [hz]), below_drewN hb2 _, hsz2, cc2, cx2⟩
                case measure => simp [intOf]; omega
              · go_wp2
                go_quiet (fail)
                go_wp2
                go_ret
                exact ⟨ret_bool (hfl.out (by simp; omega)).symm, below_drewN hb2 _⟩
            · obtain rfl : n = m := by omega
              go_wp2
              go_roundw
              case rel => exact ⟨n + 1, by omega, by go_num, by show (_ && _) = true; rw [hall.out, hent2.out, hal2.out]; rfl, hb2, hsz2, cc2⟩
              case measure => simp [intOf]; omega
        · have hfalse : Hid (Cf.validB st rest cls = false) := by
            refine entry_no hlt ?_
            rw [hent.out]
            simp only [Bool.and_eq_false_iff, decide_eq_false_iff_not]
            omega
          clear hent
          generalize Cf.gr cls m = x at *
          generalize Cf.sl cls m = y at *
          go_wp2
          all_goals
            go_ret
            exact ⟨ret_bool hfalse.out.symm, hb.alloc hb.size _⟩
      · obtain rfl : m = cls.length := by omega
        go_wp2
        go_ret
        exact ⟨ret_bool (by rw [hvb.out, hall.out, Bool.true_and]), hb⟩
end Go.Proofs.Ytjikemhmnkckcab
namespace Go.Proofs.Ytjikemhmnkckcab
open Go.RowKit

theorem ret_ints {a b c d : Int} (h : a = c) (h' : b = d) : Ending.returned (.tuple #[.int .i64 a, .int .i64 b]) = .returned (.tuple #[.int .i64 c, .int .i64 d]) := by rw [h, h']

/-- the boxed configuration's cells -/
structure CBox (w : World) (b : Nat) (st rest : Int) (a : Option Addr) (n cap : Nat) : Prop where
  lt : b < w.heap.size
  c0 : w.cell? ⟨b, 0, none⟩ = some (.int .i64 st)
  c1 : w.cell? ⟨b, 1, none⟩ = some (.int .i64 rest)
  c2 : w.cell? ⟨b, 2, none⟩ = some (.slice a n cap)
theorem CBox.alloc (w : World) (st rest : Int) (a : Option Addr) (n cap : Nat) (t : TypeId) : CBox (w.alloc (.cells #[.int .i64 st, .int .i64 rest, .slice a n cap] t)) w.heap.size st rest a n cap :=
  ⟨by simp, by simp, by simp, by simp⟩
theorem CBox.below {w w' : World} {b : Nat} {st rest : Int} {a : Option Addr} {n cap : Nat} (h : CBox w b st rest a n cap) {B : Nat} (hb : Below B w w') (hB : b < B) : CBox w' b st rest a n cap :=
  ⟨Nat.lt_of_lt_of_le h.lt hb.size, (hb.cell (p := ⟨b, 0, none⟩) hB).trans h.c0, (hb.cell (p := ⟨b, 1, none⟩) hB).trans h.c1, (hb.cell (p := ⟨b, 2, none⟩) hB).trans h.c2⟩

end Go.Proofs.Ytjikemhmnkckcab
