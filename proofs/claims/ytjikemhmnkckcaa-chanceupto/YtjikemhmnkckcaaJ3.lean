import Derived.Test.YtjikemhmnkckcaaProg
import Derived.Test.YtjikemhmnkckcaaJ2
import Derived.WalkKit
import Derived.WalkSpells
import Derived.WalkLawsBesides
import Derived.BigQuiet
namespace Go.Proofs.Ytjikemhmnkckcaa
open Go.RowKit

theorem ret_bool {a b : Bool} (h : a = b) : Ending.returned (.bool a) = .returned (.bool b) := by rw [h]
theorem ret_int {k : IntKind} {a b : Int} (h : a = b) : Ending.returned (.int k a) = .returned (.int k b) := by rw [h]

/-- candidate -/
def candB (t l a b : Int) : Bool := decide (1 ≤ t) && decide (t ≤ 14) && decide (t ≠ l) && decide (t ≠ a) && decide (t ≠ b)

set_option maxHeartbeats 400000 in
theorem cand_any (t l a b : Int) (w : World) :
    Calls Try.prog 49 #[.int .i64 t, .int .i64 l, .int .i64 a, .int .i64 b] w fun e w' => e = .returned (.bool (candB t l a b)) ∧ w' = w := by
  go_enter Try.func49, Try.ntmps49
  go_wp2
  all_goals go_ret
  all_goals refine ⟨ret_bool ?_, rfl⟩
  all_goals unfold candB
  all_goals first | (rw [Bool.eq_iff_iff]; simp; omega) | (simp; omega)

theorem candB_ok (t : Nat) (l a b : Int) (h1 : 1 ≤ t) (h2 : t ≤ 14) : candB t l a b = PickMath.ok l a b t := by
  rw [Bool.eq_iff_iff, PickMath.ok_iff]; simp [candB]; omega

set_option maxHeartbeats 400000 in
theorem below_any (t l a b : Int) (w : World) (h1 : 1 ≤ t) (h2 : t ≤ 15) :
    Calls Try.prog 48 #[.int .i64 t, .int .i64 l, .int .i64 a, .int .i64 b] w fun e w' => e = .returned (.int .i64 (PickMath.cs (PickMath.ok l a b) (t.toNat - 1)).length) ∧ w' = w := by
  go_enter Try.func48, Try.ntmps48
  go_wp2
  go_loop [9, 10] (fun n i => ∃ k : Nat, (k : Int) < t ∧ i = .int .i64 ((k : Int) + 1) ∧ n = .int .i64 (PickMath.cs (PickMath.ok l a b) k).length) (fun _ i => 15 - (intOf i).toNat)
  case atStart => exact ⟨0, by omega, rfl, rfl⟩
  case round =>
    obtain ⟨k, hk, rfl, rfl⟩ := hrel
    have hl := PickMath.cs_len_le (PickMath.ok l a b) k
    by_cases hlt : (k : Int) + 1 < t
    · have hc : Hid (candB ((k : Int) + 1) l a b = PickMath.ok l a b (k + 1)) := candB_ok (k + 1) l a b (by omega) (by omega)
      cases hok : PickMath.ok l a b (k + 1)
      · have hlen : Hid ((PickMath.cs (PickMath.ok l a b) (k + 1)).length = (PickMath.cs (PickMath.ok l a b) k).length) := PickMath.cs_same _ hok
        have hcc : Hid (candB ((k : Int) + 1) l a b = false) := by rw [hc.out, hok]; rfl
        clear hok hc
        go_wp2_with (go_at_call 49; refine (cand_any _ _ _ _ _).mono ?_; rintro e w' ⟨rfl, rfl⟩; rw [hcc.out])
        go_round
        case rel => exact ⟨k + 1, by omega, by go_num, by rw [hlen.out]⟩
        case measure => simp [intOf]; omega
      · have hlen : Hid ((PickMath.cs (PickMath.ok l a b) (k + 1)).length = (PickMath.cs (PickMath.ok l a b) k).length + 1) := PickMath.cs_more _ hok
        have hcc : Hid (candB ((k : Int) + 1) l a b = true) := by rw [hc.out, hok]; rfl
        clear hok hc
        go_wp2_with (go_at_call 49; refine (cand_any _ _ _ _ _).mono ?_; rintro e w' ⟨rfl, rfl⟩; rw [hcc.out])
        go_round
        case rel => exact ⟨k + 1, by omega, by go_num, by rw [hlen.out]; go_num⟩
        case measure => simp [intOf]; omega
    · go_wp2
      go_ret
      exact ⟨ret_int (by rw [show t.toNat - 1 = k by omega]), rfl⟩

set_option maxHeartbeats 400000 in
theorem rpick_any (l a b d : Int) (w : World) :
    Calls Try.prog 20 #[.int .i64 l, .int .i64 a, .int .i64 b, .int .i64 d] w fun e w' => e = .returned (.int .i64 (PickMath.pick l a b d)) ∧ w' = w := by
  have t1 := PickMath.tmod_lo d
  have t2 := PickMath.tmod_hi d
  have t3 := PickMath.dr_lo d
  have t4 := PickMath.dr_hi d
  have m1 := PickMath.many_lo l a b
  have m2 := PickMath.many_hi l a b
  by_cases hneg : d.tmod 12012 < 0
  all_goals
    go_enter Try.func20, Try.ntmps20
    go_wp2_with (go_at_call 48; refine (below_any _ _ _ _ _ (by omega) (by omega)).mono ?_; rintro e w' ⟨rfl, rfl⟩; rw [show (PickMath.cs (PickMath.ok l a b) (Int.toNat 15 - 1)).length = PickMath.many l a b from rfl])
    first | rw [PickMath.tmod_neg hneg] | rw [PickMath.tmod_pos (Int.not_lt.2 hneg)]
    clear hneg t1 t2
    have hmod : Hid (((PickMath.dr d).toNat % PickMath.many l a b : Nat) = (PickMath.dr d) % (PickMath.many l a b : Int)) := by
      show _ = _
      rw [Int.natCast_emod, Int.toNat_of_nonneg t3]
    go_loop [11] (fun i => ∃ k : Nat, k ≤ 14 ∧ i = .int .i64 ((k : Int) + 1) ∧ Hid (∀ s, s < k → PickMath.pick l a b d ≠ s + 1)) (fun i => 15 - (intOf i).toNat)
    case atStart => exact ⟨0, by omega, rfl, fun s hs => by omega⟩
    case round =>
      obtain ⟨k, hk, rfl, hno⟩ := hrel
      have hl := PickMath.cs_len_le (PickMath.ok l a b) k
      by_cases hlt : k < 14
      · have hc : Hid (candB ((k : Int) + 1) l a b = PickMath.ok l a b (k + 1)) := candB_ok (k + 1) l a b (by omega) (by omega)
        have hst : Hid (PickMath.pick l a b d ≠ k + 1 → ∀ s, s < k + 1 → PickMath.pick l a b d ≠ s + 1) := fun h s hs => by
          by_cases e : s = k
          · subst e; exact h
          · exact hno s (by omega)
        cases hok : PickMath.ok l a b (k + 1)
        · have hcc : Hid (candB ((k : Int) + 1) l a b = false) := by rw [hc.out, hok]; rfl
          have hne : Hid (PickMath.pick l a b d ≠ k + 1) := fun e => by
            have := PickMath.pick_ok l a b d; rw [e, hok] at this; cases this
          clear hok hc
          go_wp2_with (first | (go_at_call 49; refine (cand_any _ _ _ _ _).mono ?_; rintro e w' ⟨rfl, rfl⟩; rw [hcc.out]) | (go_at_call 48; refine (below_any _ _ _ _ _ (by omega) (by omega)).mono ?_; rintro e w' ⟨rfl, rfl⟩; rw [show ((k : Int) + 1).toNat - 1 = k from by omega]))
          go_round
          case rel => exact ⟨k + 1, by omega, by go_num, hst.out hne.out⟩
          case measure => simp [intOf]; omega
        · have hcc : Hid (candB ((k : Int) + 1) l a b = true) := by rw [hc.out, hok]; rfl
          by_cases heq : (PickMath.cs (PickMath.ok l a b) k).length = (PickMath.dr d).toNat % PickMath.many l a b
          · have hp : Hid (PickMath.pick l a b d = k + 1) := PickMath.pick_of l a b d k hok heq
            have hq : (((PickMath.cs (PickMath.ok l a b) k).length : Int) == (PickMath.dr d) % (PickMath.many l a b : Int)) = true := by
              rw [← hmod.out, heq]; simp
            clear hok hc heq
            go_wp2_with (first | (go_at_call 49; refine (cand_any _ _ _ _ _).mono ?_; rintro e w' ⟨rfl, rfl⟩; rw [hcc.out]) | (go_at_call 48; refine (below_any _ _ _ _ _ (by omega) (by omega)).mono ?_; rintro e w' ⟨rfl, rfl⟩; rw [show ((k : Int) + 1).toNat - 1 = k from by omega]))
            go_ret
            exact ⟨ret_int (by rw [hp.out]; omega), rfl⟩
          · have hp : Hid (PickMath.pick l a b d ≠ k + 1) := PickMath.pick_ne l a b d k hok heq
            have hq : (((PickMath.cs (PickMath.ok l a b) k).length : Int) == (PickMath.dr d) % (PickMath.many l a b : Int)) = false := by
              rw [← hmod.out, beq_eq_false_iff_ne]; omega
            clear hok hc heq
            go_wp2_with (first | (go_at_call 49; refine (cand_any _ _ _ _ _).mono ?_; rintro e w' ⟨rfl, rfl⟩; rw [hcc.out]) | (go_at_call 48; refine (below_any _ _ _ _ _ (by omega) (by omega)).mono ?_; rintro e w' ⟨rfl, rfl⟩; rw [show ((k : Int) + 1).toNat - 1 = k from by omega]))
            go_round
            case rel => exact ⟨k + 1, by omega, by go_num, hst.out hp.out⟩
            case measure => simp [intOf]; omega
      · exfalso
        obtain ⟨t, h1, _, _, h4⟩ := PickMath.pick_spec l a b d
        exact hno.out t (by omega) h4

/-- behind k rounds of granule.Pick's loop: the candidates so far lie at the head of the new array -/
structure PickRel (w : World) (l a b : Int) (k : Nat) (wr : World) : Prop where
  below : Below w.heap.size w wr
  there : ∀ j, j < 14 → ∃ v, wr.cell? ⟨w.heap.size, j, none⟩ = some v
  open_ : ∀ j, wr.frozen? ⟨w.heap.size, j, none⟩ = false
  here : ∀ j, j < (PickMath.cs (PickMath.ok l a b) k).length → wr.cell? ⟨w.heap.size, j, none⟩ = some (.int .i64 ((PickMath.cs (PickMath.ok l a b) k).getD j 0))

theorem PickRel.start (w : World) (l a b : Int) (c : Array Value) (t : TypeId) (hc : c.size = 14) : PickRel w l a b 0 (w.alloc (.cells c t)) :=
  ⟨(Below.refl _ _).alloc (Nat.le_refl _) _, fun j hj => ⟨c[j], by simp [World.cell?_alloc_new, hc, hj]⟩, fun j => by simp, fun j hj => by simp [PickMath.cs] at hj⟩

theorem PickRel.same {w : World} {l a b : Int} {k : Nat} {wr : World} (h : PickRel w l a b k wr) (hok : PickMath.ok l a b (k + 1) = false) : PickRel w l a b (k + 1) wr := by
  have e : PickMath.cs (PickMath.ok l a b) (k + 1) = PickMath.cs (PickMath.ok l a b) k := by simp [PickMath.cs, hok]
  exact ⟨h.below, h.there, h.open_, by rw [e]; exact h.here⟩

theorem PickRel.more {w : World} {l a b : Int} {k : Nat} {wr : World} (h : PickRel w l a b k wr) (hk : k < 14) (hok : PickMath.ok l a b (k + 1) = true) :
    PickRel w l a b (k + 1) (wr.setCell ⟨w.heap.size, (PickMath.cs (PickMath.ok l a b) k).length, none⟩ (.int .i64 ((k : Int) + 1))) := by
  have e : PickMath.cs (PickMath.ok l a b) (k + 1) = PickMath.cs (PickMath.ok l a b) k ++ [k + 1] := by simp [PickMath.cs, hok]
  have hl := PickMath.cs_len_le (PickMath.ok l a b) k
  obtain ⟨v0, hv0⟩ := h.there (PickMath.cs (PickMath.ok l a b) k).length (by omega)
  refine ⟨h.below.setCell (Nat.le_refl _) _, fun j hj => ?_, fun j => by rw [World.frozen?_setCell]; exact h.open_ j, fun j hj => ?_⟩
  · by_cases ej : j = (PickMath.cs (PickMath.ok l a b) k).length
    · subst ej; exact ⟨_, World.cell?_setCell_same _ _ _ hv0⟩
    · obtain ⟨v, hv⟩ := h.there j hj
      exact ⟨v, by rw [World.cell?_setCell_other _ _ _ _ (by intro x; injection x with _ x _; omega)]; exact hv⟩
  · rw [e] at hj ⊢
    by_cases ej : j = (PickMath.cs (PickMath.ok l a b) k).length
    · subst ej; rw [World.cell?_setCell_same _ _ _ hv0]; simp
    · have hj' : j < (PickMath.cs (PickMath.ok l a b) k).length := by simp at hj; omega
      rw [World.cell?_setCell_other _ _ _ _ (by intro x; injection x with _ x _; omega), h.here j hj']
      simp [List.getElem?_append_left hj']

set_option maxHeartbeats 400000 in
theorem gpick_any (l a b d : Int) (w : World) :
    Calls Try.prog 19 #[.int .i64 l, .int .i64 a, .int .i64 b, .int .i64 d] w fun e w' => e = .returned (.int .i64 (PickMath.pick l a b d)) ∧ Below w.heap.size w w' := by
  have t1 := PickMath.tmod_lo d
  have t2 := PickMath.tmod_hi d
  have t3 := PickMath.dr_lo d
  have t4 := PickMath.dr_hi d
  have m1 := PickMath.many_lo l a b
  have m2 := PickMath.many_hi l a b
  go_enter Try.func19, Try.ntmps19
  go_wp2_with fail
  go_loopw [10, 11] (fun c t wr => ∃ k : Nat, k ≤ 14 ∧ t = .int .i64 ((k : Int) + 1) ∧ c = .int .i64 (PickMath.cs (PickMath.ok l a b) k).length ∧ PickRel w l a b k wr) (fun _ t _ => 15 - (intOf t).toNat)
  case atStart => exact ⟨0, by omega, rfl, rfl, PickRel.start _ _ _ _ _ _ rfl⟩
  case round =>
    obtain ⟨k, hk, rfl, rfl, hr⟩ := hrel
    have hl := PickMath.cs_len_le (PickMath.ok l a b) k
    by_cases hlt : k < 14
    · cases hok : PickMath.ok l a b (k + 1)
      · have hs := hr.same hok
        have hlen : Hid ((PickMath.cs (PickMath.ok l a b) (k + 1)).length = (PickMath.cs (PickMath.ok l a b) k).length) := PickMath.cs_same _ hok
        have hno : (k : Int) + 1 = l ∨ (k : Int) + 1 = a ∨ (k : Int) + 1 = b := by
          have : ¬ PickMath.ok l a b (k + 1) = true := by rw [hok]; decide
          rw [PickMath.ok_iff] at this; omega
        clear hok hr
        cases b1 : ((k : Int) + 1 != l) <;> cases b2 : ((k : Int) + 1 != a) <;> cases b3 : ((k : Int) + 1 != b)
        case true.true.true => rw [bne_iff_ne] at b1 b2 b3; omega
        all_goals
          clear hno
          go_wp2
          go_roundw
          case rel => exact ⟨k + 1, by omega, by go_num, by rw [hlen.out], hs⟩
          case measure => simp [intOf]; omega
      · have hs := hr.more hlt hok
        have hlen : Hid ((PickMath.cs (PickMath.ok l a b) (k + 1)).length = (PickMath.cs (PickMath.ok l a b) k).length + 1) := PickMath.cs_more _ hok
        obtain ⟨v0, hv0⟩ := hr.there (PickMath.cs (PickMath.ok l a b) k).length (by omega)
        have hf0 := hr.open_ (PickMath.cs (PickMath.ok l a b) k).length
        obtain ⟨n1, n2, n3⟩ := (PickMath.ok_iff _ _ _ _).1 hok
        have n1 : ((k : Int) + 1 != l) = true := by rw [bne_iff_ne]; omega
        have n2 : ((k : Int) + 1 != a) = true := by rw [bne_iff_ne]; omega
        have n3 : ((k : Int) + 1 != b) = true := by rw [bne_iff_ne]; omega
        clear hok
        go_wp2
        go_roundw
        case rel => exact ⟨k + 1, by omega, by go_num, by rw [hlen.out]; go_num, hs⟩
        case measure => simp [intOf]; omega
    · obtain rfl : k = 14 := by omega
      have hmod : ((PickMath.dr d).toNat % PickMath.many l a b : Nat) = (PickMath.dr d) % (PickMath.many l a b : Int) := by
        rw [Int.natCast_emod, Int.toNat_of_nonneg t3]
      have hlt2 : (PickMath.dr d).toNat % PickMath.many l a b < PickMath.many l a b := Nat.mod_lt _ (by omega)
      have hv := hr.here ((PickMath.dr d).toNat % PickMath.many l a b) hlt2
      have hbl := hr.below
      have hp : Hid (PickMath.pick l a b d = (PickMath.cs (PickMath.ok l a b) 14).getD ((PickMath.dr d).toNat % PickMath.many l a b) 0) := rfl
      have hbd : 0 ≤ (PickMath.dr d) % (PickMath.many l a b : Int) := by rw [← hmod]; omega
      have hbd2 : (PickMath.dr d) % (PickMath.many l a b : Int) < 14 := by rw [← hmod]; omega
      have hmod2 : Hid (((PickMath.dr d) % (PickMath.many l a b : Int)).toNat = (PickMath.dr d).toNat % PickMath.many l a b) := by rw [← hmod]; rfl
      rw [← hmod2.out] at hv hp
      clear hmod hlt2
      have e : (PickMath.cs (PickMath.ok l a b) 14).length = PickMath.many l a b := rfl
      rw [e]
      clear e hl
      generalize (PickMath.cs (PickMath.ok l a b) 14).getD ((PickMath.dr d) % (PickMath.many l a b : Int)).toNat 0 = res at hv hp
      by_cases hneg : d.tmod 12012 < 0
      · rw [← PickMath.tmod_neg hneg] at *
        go_wp2
        go_ret
        exact ⟨ret_int (by rw [hp.out]), hbl⟩
      · rw [← PickMath.tmod_pos hneg] at *
        go_wp2
        go_ret
        exact ⟨ret_int (by rw [hp.out]), hbl⟩

set_option maxHeartbeats 400000 in
theorem picks_any (l a b d : Int) (w : World) :
    Calls Try.prog 4 #[.int .i64 l, .int .i64 a, .int .i64 b, .int .i64 d] w fun e w' => e = .returned (.bool true) ∧ Below w.heap.size w w' := by
  have hq : (((PickMath.pick l a b d : Nat) : Int) == ((PickMath.pick l a b d : Nat) : Int)) = true := by simp
  go_enter Try.func4, Try.ntmps4
  go_wp2_with (first | (go_at_call 19; refine (gpick_any _ _ _ _ _).mono ?_; rintro e w' ⟨rfl, hb⟩) | (go_at_call 20; refine (rpick_any _ _ _ _ _).mono ?_; rintro e w' ⟨rfl, rfl⟩))
  go_ret
  exact ⟨rfl, hb⟩
end Go.Proofs.Ytjikemhmnkckcaa
