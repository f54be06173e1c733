import Derived.Test.YtjikemhmnkckcaaConfMath
import Derived.Test.YtjikemhmnkckcaaPickMath
/- Plain mathematics of the document's Malloc and Free. -/
namespace Go.Proofs.Ytjikemhmnkckcaa
namespace Ref

/-- the first class whose slots hold so many bytes; how many classes there are: none does -/
def classFrom (cls : List (Int × Int)) (size : Int) : Nat → Nat → Nat
  | 0, k => k
  | f + 1, k => if 16 * Cf.gr cls k < size then classFrom cls size f (k + 1) else k
def cls_ (cls : List (Int × Int)) (size : Int) : Nat := classFrom cls size cls.length 0
theorem classFrom_le (cls : List (Int × Int)) (size : Int) (f k : Nat) : k ≤ classFrom cls size f k ∧ classFrom cls size f k ≤ k + f := by
  induction f generalizing k with
  | zero => simp [classFrom]
  | succ f ih => simp only [classFrom]; have := ih (k + 1); split <;> omega
theorem classFrom_at (cls : List (Int × Int)) (size : Int) (f k : Nat) (h : classFrom cls size f k < k + f) : size ≤ 16 * Cf.gr cls (classFrom cls size f k) := by
  induction f generalizing k with
  | zero => simp [classFrom] at h
  | succ f ih =>
    simp only [classFrom] at h ⊢
    split
    · rename_i h1; rw [if_pos h1] at h; exact ih (k + 1) (by omega)
    · omega
theorem cls_le (cls : List (Int × Int)) (size : Int) : cls_ cls size ≤ cls.length := by have := classFrom_le cls size cls.length 0; unfold cls_; omega
theorem cls_at (cls : List (Int × Int)) (size : Int) (h : cls_ cls size < cls.length) : size ≤ 16 * Cf.gr cls (cls_ cls size) := classFrom_at cls size cls.length 0 (by unfold cls_ at h; omega)

/-- may a block be given out of the slot? -/
def openB (log : List Ev) (rest : Int) (k s : Nat) : Bool := (state log k s != 3) && !rests log rest k s
def first (log : List Ev) (rest : Int) (cls : List (Int × Int)) (k : Nat) : Int := firstFrom (openB log rest k) (Cf.sl cls k).toNat 0

/-- how many granules so many bytes need -/
def gsz (size : Int) : Int := (size + 15) / 16

def tagOf (log : List Ev) (k s : Nat) (draw : Int) : Nat := PickMath.pick (last log k s) (last log k ((s : Int) - 1)) (last log k ((s : Int) + 1)) draw
def U : Int := 72057594037927936

/-- is p a tag and an address? -/
def tameB (p : Int) : Bool := decide (0 ≤ p) && decide (p / U ≤ 15) && decide (p % U ≤ 65535)

/-- the slot of class k that begins at a and whose last tag is t, if it is not virgin -/
def matchB (st : Int) (cls : List (Int × Int)) (log : List Ev) (a t : Int) (k s : Nat) : Bool :=
  !(Cf.begin_ st cls k s != a || last log k s != t || state log k s == 2)
def blockIn (st : Int) (cls : List (Int × Int)) (log : List Ev) (a t : Int) (k : Nat) : Int := firstFrom (matchB st cls log a t k) (Cf.sl cls k).toNat 0
/-- class, slot, error -/
def blockFrom (st : Int) (cls : List (Int × Int)) (log : List Ev) (a t : Int) : Nat → Nat → Int × Int × Int
  | 0, _ => (0, 0, 8)
  | f + 1, k => if 0 ≤ blockIn st cls log a t k then (if state log k (blockIn st cls log a t k) = 4 then (0, 0, 9) else ((k : Int), blockIn st cls log a t k, 0)) else blockFrom st cls log a t f (k + 1)
def block (st : Int) (cls : List (Int × Int)) (log : List Ev) (p : Int) : Int × Int × Int :=
  if tameB p then blockFrom st cls log (p % U) (p / U) cls.length 0 else (0, 0, 5)
end Ref
end Go.Proofs.Ytjikemhmnkckcaa
