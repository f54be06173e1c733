import Derived.Test.YtjikemhmnkckcabProg
import Derived.WalkKit
import Derived.WalkSpells
import Derived.WalkLawsBesides
import Derived.BigQuiet
/- Plain mathematics of Pick: the candidates in rising order, how many lie below one, how often each is picked. No program in sight. -/
namespace Go.Proofs.Ytjikemhmnkckcab
namespace PickMath

/-- those of 1 .. k that p lets, in rising order -/
def cs (p : Nat → Bool) : Nat → List Nat
  | 0 => []
  | k + 1 => if p (k + 1) then cs p k ++ [k + 1] else cs p k

theorem cs_len_le (p : Nat → Bool) (k : Nat) : (cs p k).length ≤ k := by
  induction k with
  | zero => simp [cs]
  | succ k ih =>
    simp only [cs]; split
    · rw [List.length_append, List.length_singleton]; omega
    · omega

theorem cs_more (p : Nat → Bool) {k : Nat} (h : p (k + 1) = true) : (cs p (k + 1)).length = (cs p k).length + 1 := by
  simp [cs, h]

theorem cs_same (p : Nat → Bool) {k : Nat} (h : p (k + 1) = false) : (cs p (k + 1)).length = (cs p k).length := by
  simp [cs, h]

theorem cs_mono (p : Nat → Bool) (k : Nat) : (cs p k).length ≤ (cs p (k + 1)).length := by
  simp only [cs]; split <;> simp

theorem cs_mono' (p : Nat → Bool) {j k : Nat} (h : j ≤ k) : (cs p j).length ≤ (cs p k).length := by
  induction k with
  | zero => obtain rfl : j = 0 := by omega
            exact Nat.le_refl _
  | succ k ih =>
    by_cases e : j = k + 1
    · subst e; exact Nat.le_refl _
    · exact Nat.le_trans (ih (by omega)) (cs_mono p k)

/-- the candidate t stands behind those below it -/
theorem cs_at (p : Nat → Bool) (n t : Nat) (h : t < n) (hp : p (t + 1) = true) : (cs p n)[(cs p t).length]? = some (t + 1) := by
  induction n with
  | zero => omega
  | succ n ih =>
    by_cases e : t = n
    · subst e; simp [cs, hp]
    · have hi := ih (by omega)
      simp only [cs]
      split
      · rw [List.getElem?_append_left]
        · exact hi
        · rcases Nat.lt_or_ge (cs p t).length (cs p n).length with h1 | h1
          · exact h1
          · rw [List.getElem?_eq_none h1] at hi; cases hi
      · exact hi

/-- two candidates with equally many below them are one -/
theorem cs_inj (p : Nat → Bool) {s t : Nat} (hs : p (s + 1) = true) (ht : p (t + 1) = true) (h : (cs p s).length = (cs p t).length) : s = t := by
  rcases Nat.lt_trichotomy s t with h1 | h1 | h1
  · have := cs_mono' p (j := s + 1) (k := t) (by omega)
    rw [cs_more p hs] at this; omega
  · exact h1
  · have := cs_mono' p (j := t + 1) (k := s) (by omega)
    rw [cs_more p ht] at this; omega

/-- each place of the list is some candidate's -/
theorem cs_get (p : Nat → Bool) (n j : Nat) (h : j < (cs p n).length) : ∃ t, t < n ∧ p (t + 1) = true ∧ (cs p t).length = j := by
  induction n with
  | zero => simp [cs] at h
  | succ n ih =>
    by_cases hp : p (n + 1) = true
    · by_cases e : j = (cs p n).length
      · exact ⟨n, by omega, hp, e.symm⟩
      · simp [cs, hp] at h
        obtain ⟨t, h1, h2, h3⟩ := ih (by omega)
        exact ⟨t, by omega, h2, h3⟩
    · simp [cs, hp] at h
      obtain ⟨t, h1, h2, h3⟩ := ih h
      exact ⟨t, by omega, h2, h3⟩

/-- is t none of the three? -/
def ok (l a b : Int) (t : Nat) : Bool := (decide ((t : Int) ≠ l) && decide ((t : Int) ≠ a)) && decide ((t : Int) ≠ b)

theorem ok_iff (l a b : Int) (t : Nat) : ok l a b t = true ↔ (t : Int) ≠ l ∧ (t : Int) ≠ a ∧ (t : Int) ≠ b := by
  simp [ok, and_assoc]

def one (x : Int) (k : Nat) : Nat := if 1 ≤ x ∧ x ≤ k then 1 else 0
theorem one_le (x : Int) (k : Nat) : one x k ≤ 1 := by unfold one; split <;> omega
theorem one_succ (x : Int) (k : Nat) : one x (k + 1) = one x k + if ((k + 1 : Nat) : Int) = x then 1 else 0 := by
  unfold one; split <;> split <;> split <;> omega

theorem cs_many (l a b : Int) (k : Nat) : k ≤ (cs (ok l a b) k).length + one l k + one a k + one b k := by
  induction k with
  | zero => simp
  | succ k ih =>
    rw [one_succ, one_succ, one_succ]
    by_cases h : ok l a b (k + 1) = true
    · simp only [cs, h, if_true, List.length_append, List.length_singleton]; omega
    · have h' : ((k + 1 : Nat) : Int) = l ∨ ((k + 1 : Nat) : Int) = a ∨ ((k + 1 : Nat) : Int) = b := by
        rw [ok_iff] at h; omega
      simp only [cs, h]
      rcases h' with h' | h' | h'
      · rw [if_pos h']; simp; omega
      · rw [if_pos (c := ((k + 1 : Nat) : Int) = a) h']; simp; omega
      · rw [if_pos (c := ((k + 1 : Nat) : Int) = b) h']; simp; omega

/-- how many candidates -/
def many (l a b : Int) : Nat := (cs (ok l a b) 14).length
theorem many_lo (l a b : Int) : 11 ≤ many l a b := by
  have := cs_many l a b 14; have := one_le l 14; have := one_le a 14; have := one_le b 14
  unfold many; omega
theorem many_hi (l a b : Int) : many l a b ≤ 14 := cs_len_le _ _

/-- the draw as it counts -/
def dr (d : Int) : Int := d % 12012
theorem dr_lo (d : Int) : 0 ≤ dr d := by unfold dr; omega
theorem dr_hi (d : Int) : dr d < 12012 := by unfold dr; omega
theorem dr_id {d : Int} (h0 : 0 ≤ d) (h1 : d < 12012) : dr d = d := by unfold dr; omega
theorem dr_dr (d : Int) : dr (dr d) = dr d := dr_id (dr_lo d) (dr_hi d)

theorem tmod_is (d : Int) : d.tmod 12012 = dr d ∨ d.tmod 12012 = dr d - 12012 := by
  rw [Int.tmod_eq_emod]; unfold dr; split
  · left; omega
  · right; rfl
theorem tmod_pos {d : Int} (h : ¬ d.tmod 12012 < 0) : d.tmod 12012 = dr d := by
  have := tmod_is d; have := dr_hi d; omega
theorem tmod_neg {d : Int} (h : d.tmod 12012 < 0) : d.tmod 12012 + 12012 = dr d := by
  have := tmod_is d; have := dr_lo d; omega
theorem tmod_lo (d : Int) : -12012 ≤ d.tmod 12012 := by
  have := tmod_is d; have := dr_lo d; omega
theorem tmod_hi (d : Int) : d.tmod 12012 < 12012 := by
  have := tmod_is d; have := dr_hi d; omega

/-- P5 -/
def pick (l a b d : Int) : Nat := (cs (ok l a b) 14).getD ((dr d).toNat % many l a b) 0

theorem pick_spec (l a b d : Int) : ∃ t, t < 14 ∧ ok l a b (t + 1) = true ∧ (cs (ok l a b) t).length = (dr d).toNat % many l a b ∧ pick l a b d = t + 1 := by
  have hm := many_lo l a b
  have hj : (dr d).toNat % many l a b < (cs (ok l a b) 14).length := Nat.mod_lt _ (by omega)
  obtain ⟨t, h1, h2, h3⟩ := cs_get _ _ _ hj
  refine ⟨t, h1, h2, h3, ?_⟩
  unfold pick
  rw [← h3, List.getD_eq_getElem?_getD, cs_at _ _ _ h1 h2]; rfl

theorem pick_lo (l a b d : Int) : 1 ≤ pick l a b d := by
  obtain ⟨t, _, _, _, h⟩ := pick_spec l a b d; omega
theorem pick_hi (l a b d : Int) : pick l a b d ≤ 14 := by
  obtain ⟨t, _, _, _, h⟩ := pick_spec l a b d; omega
theorem pick_ok (l a b d : Int) : ok l a b (pick l a b d) = true := by
  obtain ⟨t, _, h2, _, h⟩ := pick_spec l a b d; rw [h]; exact h2

theorem pick_of (l a b d : Int) (t : Nat) (h2 : ok l a b (t + 1) = true) (h3 : (cs (ok l a b) t).length = (dr d).toNat % many l a b) : pick l a b d = t + 1 := by
  obtain ⟨s, _, g2, g3, g4⟩ := pick_spec l a b d
  rw [g4, cs_inj _ g2 h2 (by rw [g3, h3])]

theorem pick_ne (l a b d : Int) (t : Nat) (h2 : ok l a b (t + 1) = true) (h3 : (cs (ok l a b) t).length ≠ (dr d).toNat % many l a b) : pick l a b d ≠ t + 1 := by
  obtain ⟨s, _, g2, g3, g4⟩ := pick_spec l a b d
  intro e
  have : s = t := by omega
  subst this
  exact h3 g3

/-- how many of the draws 0 .. n-1 pick t -/
def cnt (l a b : Int) (t : Nat) : Nat → Nat
  | 0 => 0
  | n + 1 => cnt l a b t n + if pick l a b (n : Int) = t then 1 else 0

theorem cnt_le (l a b : Int) (t n : Nat) : cnt l a b t n ≤ n := by
  induction n with
  | zero => simp [cnt]
  | succ n ih => simp only [cnt]; split <;> omega

theorem cnt_bad (l a b : Int) (t n : Nat) (h : ok l a b t = false) : cnt l a b t n = 0 := by
  induction n with
  | zero => rfl
  | succ n ih =>
    have : pick l a b (n : Int) ≠ t := by
      intro e; have := pick_ok l a b (n : Int); rw [e, h] at this; cases this
    simp [cnt, ih, this]

/-- how many of 0 .. n-1 leave j by m -/
def rem (m j : Nat) : Nat → Nat
  | 0 => 0
  | n + 1 => rem m j n + if n % m = j then 1 else 0

theorem rem_block (m j q : Nat) : ∀ r, r ≤ m → rem m j (q * m + r) = rem m j (q * m) + if j < r then 1 else 0 := by
  intro r
  induction r with
  | zero => intro _; simp
  | succ r ih =>
    intro h
    have hi := ih (by omega)
    have e : (q * m + r) % m = r := by
      rw [Nat.add_comm, Nat.add_mul_mod_self_right, Nat.mod_eq_of_lt (by omega)]
    have e2 : rem m j (q * m + (r + 1)) = rem m j (q * m + r) + if (q * m + r) % m = j then 1 else 0 := rfl
    rw [e2, hi, e]
    split <;> split <;> split <;> omega

theorem rem_mul (m j q : Nat) (hj : j < m) : rem m j (q * m) = q := by
  induction q with
  | zero => simp [rem]
  | succ q ih =>
    rw [Nat.succ_mul, rem_block m j q m (Nat.le_refl _), ih, if_pos hj]

theorem cnt_rem (l a b : Int) (t n : Nat) (h : ok l a b (t + 1) = true) (hn : n ≤ 12012) : cnt l a b (t + 1) n = rem (many l a b) (cs (ok l a b) t).length n := by
  induction n with
  | zero => rfl
  | succ n ih =>
    have hd : (dr (n : Int)).toNat = n := by rw [dr_id (by omega) (by omega)]; omega
    simp only [cnt, rem, ih (by omega)]
    by_cases e : n % many l a b = (cs (ok l a b) t).length
    · rw [if_pos e, if_pos (pick_of l a b n t h (by rw [hd, e]))]
    · rw [if_neg e, if_neg (pick_ne l a b n t h (by rw [hd]; exact fun x => e x.symm))]

theorem cnt_good (l a b : Int) (t : Nat) (ht : t < 14) (h : ok l a b (t + 1) = true) : cnt l a b (t + 1) 12012 * many l a b = 12012 := by
  have h1 := many_lo l a b
  have h2 := many_hi l a b
  have hj : (cs (ok l a b) t).length < many l a b := by
    have := cs_mono' (ok l a b) (j := t + 1) (k := 14) (by omega)
    rw [cs_more _ h] at this; unfold many; omega
  rw [cnt_rem l a b t 12012 h (Nat.le_refl _)]
  have hd : 12012 = 12012 / many l a b * many l a b := by
    have : many l a b = 11 ∨ many l a b = 12 ∨ many l a b = 13 ∨ many l a b = 14 := by omega
    rcases this with e | e | e | e <;> rw [e]
  have e : rem (many l a b) (cs (ok l a b) t).length 12012 = 12012 / many l a b := by
    conv => lhs; rw [hd]
    exact rem_mul _ _ _ hj
  rw [e]; exact hd.symm

end PickMath
end Go.Proofs.Ytjikemhmnkckcab
namespace Go.Proofs.Ytjikemhmnkckcab
open Go.RowKit

theorem ret_bool {a b : Bool} (h : a = b) : Ending.returned (.bool a) = .returned (.bool b) := by rw [h]
theorem ret_int {k : IntKind} {a b : Int} (h : a = b) : Ending.returned (.int k a) = .returned (.int k b) := by rw [h]

/-- candidate -/
def candB (t l a b : Int) : Bool := decide (1 ≤ t) && decide (t ≤ 14) && decide (t ≠ l) && decide (t ≠ a) && decide (t ≠ b)

theorem candB_ok (t : Nat) (l a b : Int) (h1 : 1 ≤ t) (h2 : t ≤ 14) : candB t l a b = PickMath.ok l a b t := by
  rw [Bool.eq_iff_iff, PickMath.ok_iff]; simp [candB]; omega

/-- behind k rounds of granule.Pick's loop: the candidates so far lie at the head of the new array -/
structure PickRel (w : World) (l a b : Int) (k : Nat) (wr : World) : Prop where
  below : Below w.heap.size w wr
  there : ∀ j, j < 14 → ∃ v, wr.cell? ⟨w.heap.size, j, none⟩ = some v
  open_ : ∀ j, wr.frozen? ⟨w.heap.size, j, none⟩ = false
  here : ∀ j, j < (PickMath.cs (PickMath.ok l a b) k).length → wr.cell? ⟨w.heap.size, j, none⟩ = some (.int .i64 ((PickMath.cs (PickMath.ok l a b) k).getD j 0))

theorem PickRel.start (w : World) (l a b : Int) (c : Array Value) (t : TypeId) (hc : c.size = 14) : PickRel w l a b 0 (w.alloc (.cells c t)) :=
  ⟨(Below.refl _ _).alloc (Nat.le_refl _) _, fun j hj => ⟨c[j], by simp [World.cell?_alloc_new, hc, hj]⟩, fun j => by simp, fun j hj => by simp [PickMath.cs] at hj⟩

theorem PickRel.same {w : World} {l a b : Int} {k : Nat} {wr : World} (h : PickRel w l a b k wr) (hok : PickMath.ok l a b (k + 1) = false) : PickRel w l a b (k + 1) wr := by
  have e : PickMath.cs (PickMath.ok l a b) (k + 1) = PickMath.cs (PickMath.ok l a b) k := by simp [PickMath.cs, hok]
  exact ⟨h.below, h.there, h.open_, by rw [e]; exact h.here⟩

theorem PickRel.more {w : World} {l a b : Int} {k : Nat} {wr : World} (h : PickRel w l a b k wr) (hk : k < 14) (hok : PickMath.ok l a b (k + 1) = true) :
    PickRel w l a b (k + 1) (wr.setCell ⟨w.heap.size, (PickMath.cs (PickMath.ok l a b) k).length, none⟩ (.int .i64 ((k : Int) + 1))) := by
  have e : PickMath.cs (PickMath.ok l a b) (k + 1) = PickMath.cs (PickMath.ok l a b) k ++ [k + 1] := by simp [PickMath.cs, hok]
  have hl := PickMath.cs_len_le (PickMath.ok l a b) k
  obtain ⟨v0, hv0⟩ := h.there (PickMath.cs (PickMath.ok l a b) k).length (by omega)
  refine ⟨h.below.setCell (Nat.le_refl _) _, fun j hj => ?_, fun j => by rw [World.frozen?_setCell]; exact h.open_ j, fun j hj => ?_⟩
  · by_cases ej : j = (PickMath.cs (PickMath.ok l a b) k).length
    · subst ej; exact ⟨_, World.cell?_setCell_same _ _ _ hv0⟩
    · obtain ⟨v, hv⟩ := h.there j hj
      exact ⟨v, by rw [World.cell?_setCell_other _ _ _ _ (by intro x; injection x with _ x _; omega)]; exact hv⟩
  · rw [e] at hj ⊢
    by_cases ej : j = (PickMath.cs (PickMath.ok l a b) k).length
    · subst ej; rw [World.cell?_setCell_same _ _ _ hv0]; simp
    · have hj' : j < (PickMath.cs (PickMath.ok l a b) k).length := by simp at hj; omega
      rw [World.cell?_setCell_other _ _ _ _ (by intro x; injection x with _ x _; omega), h.here j hj']
      simp [List.getElem?_append_left hj']

set_option maxHeartbeats 400000 in
theorem gpick_any (l a b d : Int) (w : World) :
    Calls Try.prog 95 #[.int .i64 l, .int .i64 a, .int .i64 b, .int .i64 d] w fun e w' => e = .returned (.int .i64 (PickMath.pick l a b d)) ∧ Below w.heap.size w w' := by
  have t1 := PickMath.tmod_lo d
  have t2 := PickMath.tmod_hi d
  have t3 := PickMath.dr_lo d
  have t4 := PickMath.dr_hi d
  have m1 := PickMath.many_lo l a b
  have m2 := PickMath.many_hi l a b
  go_enter Try.func95, Try.ntmps95
  go_wp2_with fail
  go_loopw [10, 11] (fun c t wr => ∃ k : Nat, k ≤ 14 ∧ t = .int .i64 ((k : Int) + 1) ∧ c = .int .i64 (PickMath.cs (PickMath.ok l a b) k).length ∧ PickRel w l a b k wr) (fun _ t _ => 15 - (intOf t).toNat)
  case atStart => exact ⟨0, by omega, rfl, rfl, PickRel.start _ _ _ _ _ _ rfl⟩
  case round =>
    obtain ⟨k, hk, rfl, rfl, hr⟩ := hrel
    have hl := PickMath.cs_len_le (PickMath.ok l a b) k
    by_cases hlt : k < 14
    · cases hok : PickMath.ok l a b (k + 1)
      · have hs := hr.same hok
        have hlen : Hid ((PickMath.cs (PickMath.ok l a b) (k + 1)).length = (PickMath.cs (PickMath.ok l a b) k).length) := PickMath.cs_same _ hok
        have hno : (k : Int) + 1 = l ∨ (k : Int) + 1 = a ∨ (k : Int) + 1 = b := by
          have : ¬ PickMath.ok l a b (k + 1) = true := by rw [hok]; decide
          rw [PickMath.ok_iff] at this; omega
        clear hok hr
        cases b1 : ((k : Int) + 1 != l) <;> cases b2 : ((k : Int) + 1 != a) <;> cases b3 : ((k : Int) + 1 != b)
        case true.true.true => rw [bne_iff_ne] at b1 b2 b3; omega
        all_goals
          clear hno
          go_wp2
          go_roundw
          case rel => exact ⟨k + 1, by omega, by go_num, by rw [hlen.out], hs⟩
          case measure => simp [intOf]; omega
      · have hs := hr.more hlt hok
        have hlen : Hid ((PickMath.cs (PickMath.ok l a b) (k + 1)).length = (PickMath.cs (PickMath.ok l a b) k).length + 1) := PickMath.cs_more _ hok
        obtain ⟨v0, hv0⟩ := hr.there (PickMath.cs (PickMath.ok l a b) k).length (by omega)
        have hf0 := hr.open_ (PickMath.cs (PickMath.ok l a b) k).length
        obtain ⟨n1, n2, n3⟩ := (PickMath.ok_iff _ _ _ _).1 hok
        have n1 : ((k : Int) + 1 != l) = true := by rw [bne_iff_ne]; omega
        have n2 : ((k : Int) + 1 != a) = true := by rw [bne_iff_ne]; omega
        have n3 : ((k : Int) + 1 != b) = true := by rw [bne_iff_ne]; omega
        clear hok
        go_wp2
        go_roundw
        case rel => exact ⟨k + 1, by omega, by go_num, by rw [hlen.out]; go_num, hs⟩
        case measure => simp [intOf]; omega
    · obtain rfl : k = 14 := by omega
      have hmod : ((PickMath.dr d).toNat % PickMath.many l a b : Nat) = (PickMath.dr d) % (PickMath.many l a b : Int) := by
        rw [Int.natCast_emod, Int.toNat_of_nonneg t3]
      have hlt2 : (PickMath.dr d).toNat % PickMath.many l a b < PickMath.many l a b := Nat.mod_lt _ (by omega)
      have hv := hr.here ((PickMath.dr d).toNat % PickMath.many l a b) hlt2
      have hbl := hr.below
      have hp : Hid (PickMath.pick l a b d = (PickMath.cs (PickMath.ok l a b) 14).getD ((PickMath.dr d).toNat % PickMath.many l a b) 0) := rfl
      have hbd : 0 ≤ (PickMath.dr d) % (PickMath.many l a b : Int) := by rw [← hmod]; omega
      have hbd2 : (PickMath.dr d) % (PickMath.many l a b : Int) < 14 := by rw [← hmod]; omega
      have hmod2 : Hid (((PickMath.dr d) % (PickMath.many l a b : Int)).toNat = (PickMath.dr d).toNat % PickMath.many l a b) := by rw [← hmod]; rfl
      rw [← hmod2.out] at hv hp
      clear hmod hlt2
      have e : (PickMath.cs (PickMath.ok l a b) 14).length = PickMath.many l a b := rfl
      rw [e]
      clear e hl
      generalize (PickMath.cs (PickMath.ok l a b) 14).getD ((PickMath.dr d) % (PickMath.many l a b : Int)).toNat 0 = res at hv hp
      by_cases hneg : d.tmod 12012 < 0
      · rw [← PickMath.tmod_neg hneg] at *
        go_wp2
        go_ret
        exact ⟨ret_int (by rw [hp.out]), hbl⟩
      · rw [← PickMath.tmod_pos hneg] at *
        go_wp2
        go_ret
        exact ⟨ret_int (by rw [hp.out]), hbl⟩

end Go.Proofs.Ytjikemhmnkckcab
