import Derived.Test.YtjikemhmnkckcaaProg
import Derived.Test.YtjikemhmnkckcaaPickMath
import Derived.Test.YtjikemhmnkckcaaPickWalks
import Derived.WalkKit
import Derived.WalkSpells
import Derived.WalkLawsBesides
import Derived.BigQuiet
namespace Go.Proofs.Ytjikemhmnkckcaa
open Go.RowKit

/-- behind n rounds of Fair's first loop: how often each was picked -/
structure FairRel (w : World) (l a b : Int) (n : Nat) (wr : World) : Prop where
  below : Below w.heap.size w wr
  size : w.heap.size < wr.heap.size
  open_ : ∀ j, wr.frozen? ⟨w.heap.size, j, none⟩ = false
  here : ∀ t, t < 16 → wr.cell? ⟨w.heap.size, t, none⟩ = some (.int .i64 (PickMath.cnt l a b t n))

theorem FairRel.start (w : World) (l a b : Int) (c : Array Value) (ty : TypeId) (hc : c = Array.replicate 16 (.int .i64 0)) : FairRel w l a b 0 (w.alloc (.cells c ty)) := by
  subst hc
  exact ⟨(Below.refl _ _).alloc (Nat.le_refl _) _, by simp, fun j => by simp, fun t ht => by simp [World.cell?_alloc_new, PickMath.cnt, ht]⟩

theorem FairRel.later {w wr w' : World} {l a b : Int} {n : Nat} (h : FairRel w l a b n wr) (hb : Below wr.heap.size wr w') : FairRel w l a b n w' :=
  ⟨h.below.trans (hb.mono (Nat.le_of_lt h.size)), Nat.lt_of_lt_of_le h.size hb.size, fun j => by rw [hb.frozen (p := ⟨w.heap.size, j, none⟩) h.size]; exact h.open_ j, fun t ht => by rw [hb.cell (p := ⟨w.heap.size, t, none⟩) h.size]; exact h.here t ht⟩

theorem FairRel.step {w wr : World} {l a b : Int} {n : Nat} (h : FairRel w l a b n wr) (t : Nat) (ht : PickMath.pick l a b (n : Int) = t) (hlt : t < 16) :
    FairRel w l a b (n + 1) (wr.setCell ⟨w.heap.size, t, none⟩ (.int .i64 ((PickMath.cnt l a b t n : Nat) + 1))) := by
  refine ⟨h.below.setCell (Nat.le_refl _) _, by rw [World.size_setCell]; exact h.size, fun j => by rw [World.frozen?_setCell]; exact h.open_ j, fun s hs => ?_⟩
  by_cases e : s = t
  · subst e
    rw [World.cell?_setCell_same _ _ _ (h.here _ hlt)]
    simp [PickMath.cnt, ht]
  · rw [World.cell?_setCell_other _ _ _ _ (by intro x; injection x with _ x _; omega), h.here s hs]
    simp [PickMath.cnt, ht, Ne.symm e]

set_option maxRecDepth 100000 in
set_option maxHeartbeats 1000000 in
theorem fair_any (l a b d : Int) (w : World) :
    Calls Try.prog 6 #[.int .i64 l, .int .i64 a, .int .i64 b, .int .i64 d] w fun e w' => e = .returned (.bool true) ∧ Below w.heap.size w w' := by
  have t1 := PickMath.tmod_lo d
  have t2 := PickMath.tmod_hi d
  go_enter Try.func6, Try.ntmps6
  go_wp2_with fail
  go_loopw [10] (fun i wr => ∃ n : Nat, n ≤ 12012 ∧ i = .int .i64 n ∧ FairRel w l a b n wr) (fun i _ => 12012 - (intOf i).toNat)
  case atStart => exact ⟨0, by omega, rfl, FairRel.start _ _ _ _ _ _ rfl⟩
  case round =>
    obtain ⟨n, hn, rfl, hr⟩ := hrel
    by_cases hlt : n < 12012
    · have p1 := PickMath.pick_lo l a b n
      have p2 := PickMath.pick_hi l a b n
      have c1 := PickMath.cnt_le l a b (PickMath.pick l a b n) n
      go_wp2_with fail
      refine (gpick_any _ _ _ _ _).mono ?_
      rintro e w1 ⟨rfl, hb⟩
      have hr1 := hr.later hb
      have hs := hr1.step _ rfl (by omega)
      have hc0 := hr1.here (PickMath.pick l a b n) (by omega)
      have hf0 := hr1.open_ (PickMath.pick l a b n)
      generalize PickMath.pick l a b n = t at *
      generalize PickMath.cnt l a b t n = c at *
      clear hr hb
      go_wp2
      go_roundw
      case rel => exact ⟨n + 1, by omega, by go_num, hs⟩
      case measure => simp [intOf]; omega
    · have hr2 : FairRel w l a b 12012 wr := by
        have e : n = 12012 := by omega
        rw [← e]; exact hr
      clear hr
      go_wp2
      go_loop [12, 13] (fun c i => ∃ k : Nat, k ≤ 14 ∧ i = .int .i64 ((k : Int) + 1) ∧ c = .int .i64 (PickMath.cs (PickMath.ok l a b) k).length) (fun _ i => 15 - (intOf i).toNat)
      case atStart => exact ⟨0, by omega, rfl, rfl⟩
      case round =>
        obtain ⟨k, hk, rfl, rfl⟩ := hrel
        have hl := PickMath.cs_len_le (PickMath.ok l a b) k
        by_cases hlt : k < 14
        · cases hok : PickMath.ok l a b (k + 1)
          · have hlen : Hid ((PickMath.cs (PickMath.ok l a b) (k + 1)).length = (PickMath.cs (PickMath.ok l a b) k).length) := PickMath.cs_same _ hok
            have hno : (k : Int) + 1 = l ∨ (k : Int) + 1 = a ∨ (k : Int) + 1 = b := by
              have : ¬ PickMath.ok l a b (k + 1) = true := by rw [hok]; decide
              rw [PickMath.ok_iff] at this; omega
            clear hok
            cases b1 : ((k : Int) + 1 != l) <;> cases b2 : ((k : Int) + 1 != a) <;> cases b3 : ((k : Int) + 1 != b)
            case true.true.true => rw [bne_iff_ne] at b1 b2 b3; omega
            all_goals
              clear hno
              go_wp2
              go_round
              case rel => exact ⟨k + 1, by omega, by go_num, by rw [hlen.out]⟩
              case measure => simp [intOf]; omega
          · have hlen : Hid ((PickMath.cs (PickMath.ok l a b) (k + 1)).length = (PickMath.cs (PickMath.ok l a b) k).length + 1) := PickMath.cs_more _ hok
            obtain ⟨n1, n2, n3⟩ := (PickMath.ok_iff _ _ _ _).1 hok
            have n1 : ((k : Int) + 1 != l) = true := by rw [bne_iff_ne]; omega
            have n2 : ((k : Int) + 1 != a) = true := by rw [bne_iff_ne]; omega
            have n3 : ((k : Int) + 1 != b) = true := by rw [bne_iff_ne]; omega
            clear hok
            go_wp2
            go_round
            case rel => exact ⟨k + 1, by omega, by go_num, by rw [hlen.out]; go_num⟩
            case measure => simp [intOf]; omega
        · have e14 : (PickMath.cs (PickMath.ok l a b) k).length = PickMath.many l a b := by
            have e : k = 14 := by omega
            rw [e]; rfl
          rw [e14]
          clear e14 hl
          have m1 := PickMath.many_lo l a b
          have m2 := PickMath.many_hi l a b
          go_wp2
          go_loop [14] (fun i => ∃ k : Nat, k ≤ 14 ∧ i = .int .i64 ((k : Int) + 1)) (fun i => 15 - (intOf i).toNat)
          case atStart => exact ⟨0, by omega, rfl⟩
          case round =>
            obtain ⟨j, hj, rfl⟩ := hrel
            by_cases hlt : j < 14
            · have hcell := hr2.here (j + 1) (by omega)
              have x1 : (0 : Int) ≤ (j : Int) + 1 := by omega
              have x2 : (j : Int) + 1 < 16 := by omega
              have x3 : ((j : Int) + 1).toNat = j + 1 := by omega
              cases hok : PickMath.ok l a b (j + 1)
              · have hz := PickMath.cnt_bad l a b (j + 1) 12012 hok
                rw [hz] at hcell
                have hno : (j : Int) + 1 = l ∨ (j : Int) + 1 = a ∨ (j : Int) + 1 = b := by
                  have : ¬ PickMath.ok l a b (j + 1) = true := by rw [hok]; decide
                  rw [PickMath.ok_iff] at this; omega
                clear hok hz
                cases b1 : ((j : Int) + 1 == l) <;> cases b2 : ((j : Int) + 1 == a) <;> cases b3 : ((j : Int) + 1 == b)
                case false.false.false => rw [beq_eq_false_iff_ne] at b1 b2 b3; omega
                all_goals
                  clear hno
                  go_wp2
                  go_round
                  case rel => exact ⟨j + 1, by omega, by go_num⟩
                  case measure => simp [intOf]; omega
              · have hz := PickMath.cnt_good l a b j hlt hok
                have hz2 := PickMath.cnt_le l a b (j + 1) 12012
                obtain ⟨n1, n2, n3⟩ := (PickMath.ok_iff _ _ _ _).1 hok
                have n1 : ((j : Int) + 1 == l) = false := by rw [beq_eq_false_iff_ne]; omega
                have n2 : ((j : Int) + 1 == a) = false := by rw [beq_eq_false_iff_ne]; omega
                have n3 : ((j : Int) + 1 == b) = false := by rw [beq_eq_false_iff_ne]; omega
                clear hok
                generalize PickMath.cnt l a b (j + 1) 12012 = c at *
                have hz3 : (c : Int) * (PickMath.many l a b : Int) = 12012 := by rw [← Int.natCast_mul, hz]; rfl
                clear hz
                go_wp2
                go_round
                case rel => exact ⟨j + 1, by omega, by go_num⟩
                case measure => simp [intOf]; omega
            · have hb0 := hr2.below
              have hsz := hr2.size
              have hq : (((PickMath.pick l a b d : Nat) : Int) == ((PickMath.pick l a b (PickMath.dr d) : Nat) : Int)) = true := by
                unfold PickMath.pick; rw [PickMath.dr_dr]; simp
              clear hr2
              by_cases hneg : d.tmod 12012 < 0
              all_goals
                go_wp2_with fail
                refine (gpick_any _ _ _ _ _).mono ?_
                rintro e w1 ⟨rfl, hb1⟩
                go_wp2_with fail
                first | rw [PickMath.tmod_neg hneg] | rw [PickMath.tmod_pos (Int.not_lt.2 hneg)]
                refine (gpick_any _ _ _ _ _).mono ?_
                rintro e w2 ⟨rfl, hb2⟩
                go_wp2_with fail
                go_ret
                exact ⟨rfl, hb0.trans ((hb1.mono (Nat.le_of_lt hsz)).trans (hb2.mono (Nat.le_trans (Nat.le_of_lt hsz) hb1.size)))⟩
end Go.Proofs.Ytjikemhmnkckcaa
