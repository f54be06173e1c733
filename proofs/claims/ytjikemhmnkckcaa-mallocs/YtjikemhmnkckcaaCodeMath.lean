import Derived.Test.YtjikemhmnkckcaaCodeRep
/- The program's way to find a slot, held against the document's. Plain mathematics. -/
namespace Go.Proofs.Ytjikemhmnkckcaa
namespace Cf

/-- class k has the address, by the program -/
def hasB (st : Int) (cls : List (Int × Int)) (addr : Int) (k : Nat) : Bool :=
  decide (16 * gran st cls k ≤ addr) && decide (addr < 16 * gran st cls k + (sl cls k) * (16 * gr cls k))
def cslotFrom (st : Int) (cls : List (Int × Int)) (addr : Int) : Nat → Nat → Int × Int
  | 0, _ => (-1, 0)
  | f + 1, k => if hasB st cls addr k then ((k : Int), (addr - 16 * gran st cls k) / (16 * gr cls k)) else cslotFrom st cls addr f (k + 1)

theorem begin_eq (st : Int) (cls : List (Int × Int)) (k : Nat) (s : Int) : begin_ st cls k s = 16 * gran st cls k + s * (16 * gr cls k) := by
  unfold begin_; rw [Int.mul_add, Int.mul_left_comm]

/-- the slot of an address of the class -/
theorem inS_iff (st : Int) (cls : List (Int × Int)) (addr : Int) (k s : Nat) (hg : 0 < gr cls k) : inS st cls addr k s = true ↔ (addr - 16 * gran st cls k) / (16 * gr cls k) = (s : Int) := by
  simp only [inS, Bool.and_eq_true, decide_eq_true_eq, begin_eq]
  have hw : 0 < 16 * gr cls k := by omega
  generalize 16 * gran st cls k = b at *
  generalize 16 * gr cls k = v at *
  constructor
  · rintro ⟨h1, h2⟩
    have e : addr - b = (addr - b - s * v) + s * v := by omega
    rw [e, Int.add_mul_ediv_right _ _ (by omega), Int.ediv_eq_zero_of_lt (by omega) (by omega)]; omega
  · intro h
    have h1 := Int.mul_ediv_add_emod (addr - b) v
    have h2 := Int.emod_nonneg (addr - b) (show v ≠ 0 by omega)
    have h3 := Int.emod_lt_of_pos (addr - b) hw
    rw [h, Int.mul_comm] at h1
    omega

theorem firstFrom_one (p : Nat → Bool) (s f i : Nat) (h1 : i ≤ s) (h2 : s < i + f) (hp : p s = true) (hn : ∀ j, i ≤ j → j < s → p j = false) : Ref.firstFrom p f i = s := by
  induction f generalizing i with
  | zero => omega
  | succ f ih =>
    simp only [Ref.firstFrom]
    by_cases e : i = s
    · subst e; rw [if_pos hp]
    · rw [if_neg (by rw [hn i (by omega) (by omega)]; simp)]
      exact ih (i + 1) (by omega) (by omega) (fun j h3 h4 => hn j (by omega) h4)
theorem firstFrom_none (p : Nat → Bool) (f i : Nat) (hn : ∀ j, i ≤ j → j < i + f → p j = false) : Ref.firstFrom p f i = -1 := by
  induction f generalizing i with
  | zero => rfl
  | succ f ih =>
    simp only [Ref.firstFrom]
    rw [if_neg (by rw [hn i (by omega) (by omega)]; simp)]
    exact ih (i + 1) (fun j h3 h4 => hn j (by omega) (by omega))

theorem slotIn_eq (st : Int) (cls : List (Int × Int)) (addr : Int) (k : Nat) (hg : 0 < gr cls k) (hs : 0 ≤ sl cls k) :
    slotIn st cls addr k = if hasB st cls addr k then (addr - 16 * gran st cls k) / (16 * gr cls k) else -1 := by
  have hw : 0 < 16 * gr cls k := by omega
  unfold slotIn
  by_cases h : hasB st cls addr k = true
  · rw [if_pos h]
    simp only [hasB, Bool.and_eq_true, decide_eq_true_eq] at h
    have h0 : 0 ≤ (addr - 16 * gran st cls k) / (16 * gr cls k) := Int.ediv_nonneg (by omega) (by omega)
    have h1 : (addr - 16 * gran st cls k) / (16 * gr cls k) < sl cls k := Int.ediv_lt_of_lt_mul hw (by omega)
    obtain ⟨s, hs'⟩ := Int.eq_ofNat_of_zero_le h0
    rw [hs']
    refine firstFrom_one _ s _ 0 (by omega) (by omega) ((inS_iff st cls addr k s hg).2 hs') (fun j _ hj => ?_)
    cases e : inS st cls addr k j
    · rfl
    · have := (inS_iff st cls addr k j hg).1 e; omega
  · rw [if_neg h]
    refine firstFrom_none _ _ _ (fun j _ hj => ?_)
    cases e : inS st cls addr k j
    · rfl
    · exfalso
      apply h
      simp only [inS, Bool.and_eq_true, decide_eq_true_eq, begin_eq] at e
      simp only [hasB, Bool.and_eq_true, decide_eq_true_eq]
      have h2 : (j : Int) * (16 * gr cls k) + (16 * gr cls k) ≤ sl cls k * (16 * gr cls k) := by
        have : ((j : Int) + 1) * (16 * gr cls k) ≤ sl cls k * (16 * gr cls k) := Int.mul_le_mul_of_nonneg_right (by omega) (by omega)
        rw [Int.add_mul] at this; omega
      have h3 : 0 ≤ (j : Int) * (16 * gr cls k) := Int.mul_nonneg (by omega) (by omega)
      omega

theorem cslot_eq {st rest : Int} {cls : List (Int × Int)} (hv : Valid st rest cls) (addr : Int) (f k : Nat) (h : k + f ≤ cls.length) :
    slotFrom st cls addr f k = if (cslotFrom st cls addr f k).1 < 0 then (-1, -1) else cslotFrom st cls addr f k := by
  induction f generalizing k with
  | zero => rfl
  | succ f ih =>
    have hg := hv.g0 k (by omega)
    have hs := hv.s0 k (by omega)
    have hi := slotIn_eq st cls addr k (by omega) (by omega)
    by_cases hh : hasB st cls addr k = true
    · have h0 : 0 ≤ (addr - 16 * gran st cls k) / (16 * gr cls k) := by
        simp only [hasB, Bool.and_eq_true, decide_eq_true_eq] at hh
        exact Int.ediv_nonneg (by omega) (by omega)
      rw [if_pos hh] at hi
      have e1 : cslotFrom st cls addr (f + 1) k = ((k : Int), (addr - 16 * gran st cls k) / (16 * gr cls k)) := if_pos hh
      have e2 : slotFrom st cls addr (f + 1) k = ((k : Int), slotIn st cls addr k) := if_pos (by omega)
      rw [e1, e2, hi, if_neg (by simp)]
    · rw [if_neg hh] at hi
      have e1 : cslotFrom st cls addr (f + 1) k = cslotFrom st cls addr f (k + 1) := if_neg hh
      have e2 : slotFrom st cls addr (f + 1) k = slotFrom st cls addr f (k + 1) := if_neg (by omega)
      rw [e1, e2]
      exact ih (k + 1) (by omega)

/-- the program's slotAt -/
def cslot (st : Int) (cls : List (Int × Int)) (addr : Int) : Int × Int := cslotFrom st cls addr cls.length 0
theorem cslot_no {st rest : Int} {cls : List (Int × Int)} (hv : Valid st rest cls) (addr : Int) (h : slot st cls addr = (-1, -1)) : cslot st cls addr = (-1, 0) := by
  have e := cslot_eq hv addr cls.length 0 (by omega)
  have hx : ∀ f k, (cslotFrom st cls addr f k).1 < 0 → cslotFrom st cls addr f k = (-1, 0) := by
    intro f
    induction f with
    | zero => intro k _; rfl
    | succ f ih =>
      intro k hk
      simp only [cslotFrom] at hk ⊢
      split
      · rename_i hh; rw [if_pos hh] at hk; simp at hk; omega
      · rename_i hh; rw [if_neg hh] at hk; exact ih _ hk
  unfold slot at h
  unfold cslot
  rw [h] at e
  by_cases h1 : (cslotFrom st cls addr cls.length 0).1 < 0
  · exact hx _ _ h1
  · rw [if_neg h1] at e; rw [← e] at h1; simp at h1
theorem cslot_yes {st rest : Int} {cls : List (Int × Int)} (hv : Valid st rest cls) (addr : Int) (i j : Nat) (h : slot st cls addr = ((i : Int), (j : Int))) : cslot st cls addr = ((i : Int), (j : Int)) := by
  have e := cslot_eq hv addr cls.length 0 (by omega)
  unfold slot at h
  unfold cslot
  rw [h] at e
  by_cases h1 : (cslotFrom st cls addr cls.length 0).1 < 0
  · rw [if_pos h1] at e; simp at e
  · rw [if_neg h1] at e; exact e.symm
end Cf
end Go.Proofs.Ytjikemhmnkckcaa
