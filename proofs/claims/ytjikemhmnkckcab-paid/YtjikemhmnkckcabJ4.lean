import Derived.Test.YtjikemhmnkckcabJ3
namespace Go.Proofs.Ytjikemhmnkckcab
open Go.RowKit

theorem ret_ints {a b c d : Int} (h : a = c) (h' : b = d) : Ending.returned (.tuple #[.int .i64 a, .int .i64 b]) = .returned (.tuple #[.int .i64 c, .int .i64 d]) := by rw [h, h']

/-- the boxed configuration's cells -/
structure CBox (w : World) (b : Nat) (st rest : Int) (a : Option Addr) (n cap : Nat) : Prop where
  lt : b < w.heap.size
  c0 : w.cell? ⟨b, 0, none⟩ = some (.int .i64 st)
  c1 : w.cell? ⟨b, 1, none⟩ = some (.int .i64 rest)
  c2 : w.cell? ⟨b, 2, none⟩ = some (.slice a n cap)
theorem CBox.alloc (w : World) (st rest : Int) (a : Option Addr) (n cap : Nat) (t : TypeId) : CBox (w.alloc (.cells #[.int .i64 st, .int .i64 rest, .slice a n cap] t)) w.heap.size st rest a n cap :=
  ⟨by simp, by simp, by simp, by simp⟩
theorem CBox.below {w w' : World} {b : Nat} {st rest : Int} {a : Option Addr} {n cap : Nat} (h : CBox w b st rest a n cap) {B : Nat} (hb : Below B w w') (hB : b < B) : CBox w' b st rest a n cap :=
  ⟨Nat.lt_of_lt_of_le h.lt hb.size, (hb.cell (p := ⟨b, 0, none⟩) hB).trans h.c0, (hb.cell (p := ⟨b, 1, none⟩) hB).trans h.c1, (hb.cell (p := ⟨b, 2, none⟩) hB).trans h.c2⟩

end Go.Proofs.Ytjikemhmnkckcab
namespace Go.Proofs.Ytjikemhmnkckcab
open Go.RowKit

/-- what the document's heap keeps: a valid configuration, and small sizes -/
structure ROk (R : RSt) : Prop where
  conf : Cf.Valid R.st R.rest R.cls
  size0 : ∀ i, 0 ≤ (R.log.getD i Ref.Ev.no).size
  size1 : ∀ i, (R.log.getD i Ref.Ev.no).size ≤ 8

end Go.Proofs.Ytjikemhmnkckcab
