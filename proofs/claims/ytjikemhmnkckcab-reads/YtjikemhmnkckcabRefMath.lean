/- Plain mathematics of the document's answer (granuleref): the list of events, and what is looked for in it. No program in sight. -/
namespace Go.Proofs.Ytjikemhmnkckcab
namespace Ref

structure Ev where
  back : Bool
  cls : Int
  slot : Int
  tag : Int
  size : Int
  site : Int

/-- what lies at a place where there is nothing -/
def Ev.no : Ev := ⟨false, 0, 0, 0, 0, 0⟩

def Ev.gives (e : Ev) (k s : Int) : Bool := !e.back && e.cls == k && e.slot == s
def Ev.takes (e : Ev) (k s : Int) : Bool := e.back && e.cls == k && e.slot == s

/-- among the first n events the last that gave something out of the slot -/
def givenTo (log : List Ev) (k s : Int) : Nat → Int
  | 0 => -1
  | n + 1 => if (log.getD n Ev.no).gives k s then n else givenTo log k s n
def given (log : List Ev) (k s : Int) : Int := givenTo log k s log.length

/-- the first place from i on, of f many, at which p holds; -1: none -/
def firstFrom (p : Nat → Bool) : Nat → Nat → Int
  | 0, _ => -1
  | f + 1, i => if p i then i else firstFrom p f (i + 1)

def gone (log : List Ev) (k s : Int) : Int :=
  firstFrom (fun i => (log.getD i Ev.no).takes k s) (log.length - (given log k s + 1).toNat) (given log k s + 1).toNat

/-- how many places from i on, of f many, at which p holds -/
def countFrom (p : Nat → Bool) : Nat → Nat → Nat
  | 0, _ => 0
  | f + 1, i => (if p i then 1 else 0) + countFrom p f (i + 1)

def state (log : List Ev) (k s : Int) : Int := if given log k s < 0 then 2 else if gone log k s < 0 then 3 else 4
def last (log : List Ev) (k s : Int) : Int := if given log k s < 0 then 0 else (log.getD (given log k s).toNat Ev.no).tag
def Ev.frees (e : Ev) (k : Int) : Bool := e.back && e.cls == k
/-- how many frees of the class there were behind the slot's own -/
def since (log : List Ev) (k s : Int) : Nat :=
  countFrom (fun i => (log.getD i Ev.no).frees k) (log.length - (gone log k s + 1).toNat) (gone log k s + 1).toNat
def rests (log : List Ev) (rest k s : Int) : Bool := if gone log k s < 0 then false else decide ((since log k s : Int) < rest)

theorem givenTo_lo (log : List Ev) (k s : Int) (n : Nat) : -1 ≤ givenTo log k s n := by
  induction n with
  | zero => simp [givenTo]
  | succ n ih => simp only [givenTo]; split <;> omega
theorem givenTo_hi (log : List Ev) (k s : Int) (n : Nat) : givenTo log k s n < n := by
  induction n with
  | zero => simp [givenTo]
  | succ n ih => simp only [givenTo]; split <;> omega
theorem given_lo (log : List Ev) (k s : Int) : -1 ≤ given log k s := givenTo_lo _ _ _ _
theorem given_hi (log : List Ev) (k s : Int) : given log k s < log.length := givenTo_hi _ _ _ _

theorem firstFrom_lo (p : Nat → Bool) (f i : Nat) : -1 ≤ firstFrom p f i := by
  induction f generalizing i with
  | zero => simp [firstFrom]
  | succ f ih => simp only [firstFrom]; split; · omega
                 · exact ih _
theorem firstFrom_hi (p : Nat → Bool) (f i : Nat) : firstFrom p f i < (i + f : Nat) := by
  induction f generalizing i with
  | zero => simp [firstFrom]; omega
  | succ f ih => simp only [firstFrom]; split; · omega
                 · have := ih (i + 1); omega
theorem firstFrom_at (p : Nat → Bool) (f i : Nat) (h : 0 ≤ firstFrom p f i) : (i : Int) ≤ firstFrom p f i ∧ p (firstFrom p f i).toNat = true := by
  induction f generalizing i with
  | zero => simp [firstFrom] at h
  | succ f ih =>
    simp only [firstFrom] at h ⊢
    split
    · exact ⟨Int.le_refl _, by simpa⟩
    · rename_i hp
      rw [if_neg hp] at h
      have := ih (i + 1) h
      exact ⟨by omega, this.2⟩
theorem firstFrom_no (p : Nat → Bool) (f i : Nat) (h : firstFrom p f i = -1) : ∀ j, i ≤ j → j < i + f → p j = false := by
  induction f generalizing i with
  | zero => intro j h1 h2; omega
  | succ f ih =>
    intro j h1 h2
    simp only [firstFrom] at h
    by_cases hp : p i = true
    · rw [if_pos hp] at h; omega
    · rw [if_neg hp] at h
      by_cases e : j = i
      · subst e; simpa using hp
      · exact ih (i + 1) h j (by omega) (by omega)
theorem firstFrom_before (p : Nat → Bool) (f i : Nat) (h : 0 ≤ firstFrom p f i) : ∀ j, i ≤ j → (j : Int) < firstFrom p f i → p j = false := by
  induction f generalizing i with
  | zero => simp [firstFrom] at h
  | succ f ih =>
    intro j h1 h2
    simp only [firstFrom] at h h2
    by_cases hp : p i = true
    · rw [if_pos hp] at h2; omega
    · rw [if_neg hp] at h h2
      by_cases e : j = i
      · subst e; simpa using hp
      · exact ih (i + 1) h j (by omega) h2
theorem countFrom_le (p : Nat → Bool) (f i : Nat) : countFrom p f i ≤ f := by
  induction f generalizing i with
  | zero => simp [countFrom]
  | succ f ih => simp only [countFrom]; have := ih (i + 1); split <;> omega


theorem gone_lo (log : List Ev) (k s : Int) : -1 ≤ gone log k s := firstFrom_lo _ _ _
theorem gone_hi (log : List Ev) (k s : Int) : gone log k s < log.length := by
  have h := firstFrom_hi (fun i => (log.getD i Ev.no).takes k s) (log.length - (given log k s + 1).toNat) (given log k s + 1).toNat
  have h1 := given_lo log k s
  have h2 := given_hi log k s
  unfold gone
  omega
end Ref
end Go.Proofs.Ytjikemhmnkckcab
