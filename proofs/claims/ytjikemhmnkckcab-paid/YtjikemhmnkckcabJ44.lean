import Derived.Test.YtjikemhmnkckcabJ43
/- The document's Explain and Blame. -/
namespace Go.Proofs.Ytjikemhmnkckcab
open Go.RowKit

def rexplain (R : RSt) (q n : Int) : Rpt :=
  if (R.access q n).1 = 6 ∨ (R.access q n).1 = 7 then rlies R (R.access q n).1 (R.access q n).2 (q / 72057594037927936) else Rpt.only (R.access q n).1
def rblame (R : RSt) (q : Int) : Rpt :=
  if (Ref.block R.st R.cls R.log q).2.2 = 0 ∨ (Ref.block R.st R.cls R.log q).2.2 = 5 then Rpt.only (Ref.block R.st R.cls R.log q).2.2 else rlies R (Ref.block R.st R.cls R.log q).2.2 (q % 72057594037927936) (q / 72057594037927936)

theorem access_errs (R : RSt) (q n : Int) : (R.access q n).1 = 0 ∨ (R.access q n).1 = 2 ∨ (R.access q n).1 = 5 ∨ (R.access q n).1 = 6 ∨ (R.access q n).1 = 7 := by
  have aux : ∀ f i : Nat, (Ref.accFrom R.tag (q / 72057594037927936) (q % 72057594037927936) f i).1 = 0 ∨ (Ref.accFrom R.tag (q / 72057594037927936) (q % 72057594037927936) f i).1 = 6 ∨ (Ref.accFrom R.tag (q / 72057594037927936) (q % 72057594037927936) f i).1 = 7 := by
    intro f
    induction f with
    | zero => intro i; exact .inl rfl
    | succ f ih =>
      intro i
      simp only [Ref.accFrom]
      split
      · exact .inr (.inl rfl)
      · split
        · exact .inr (.inr rfl)
        · exact ih (i + 1)
  unfold RSt.access
  split
  · exact .inr (.inl rfl)
  · split
    · exact .inl rfl
    · split
      · rcases aux n.toNat 0 with h | h | h
        · exact .inl h
        · exact .inr (.inr (.inr (.inl h)))
        · exact .inr (.inr (.inr (.inr h)))
      · exact .inr (.inr (.inl rfl))

end Go.Proofs.Ytjikemhmnkckcab
