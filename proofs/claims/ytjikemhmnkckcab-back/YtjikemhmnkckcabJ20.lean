import Derived.Test.YtjikemhmnkckcabJ19
import Derived.Deep.RegionLaw
/- The document's bytes: Byte and mark. -/
namespace Go.Proofs.Ytjikemhmnkckcab
open Go.RowKit

def mkNo : Int × Int × Int := (0, 0, 0)
namespace Ref
def byteTo (marks : List (Int × Int × Int)) (addr since : Int) : Nat → Int
  | 0 => 0
  | n + 1 => if (marks.getD n mkNo).1 = addr ∧ since ≤ (marks.getD n mkNo).2.2 then (marks.getD n mkNo).2.1 else byteTo marks addr since n
/-- behind which event a mark at this address counts -/
def sinceAt (st : Int) (cls : List (Int × Int)) (log : List Ev) (addr : Int) : Int :=
  if (Cf.slot st cls addr).1 < 0 then 0 else given log (Cf.slot st cls addr).1 (Cf.slot st cls addr).2 + 1
end Ref
def RSt.byte (R : RSt) (addr : Int) : Int := Ref.byteTo R.marks addr (Ref.sinceAt R.st R.cls R.log addr) R.marks.length
def RSt.mark (R : RSt) (addr b : Int) : RSt := ⟨R.st, R.rest, R.cls, R.log, R.marks ++ [(addr, b, (R.log.length : Int))]⟩

theorem mk_cells {w : World} {g : Nat} {marks : List (Int × Int × Int)} (hc : ∀ j u, (marks.flatMap mkCells)[j]? = some u → w.cell? ⟨g, j, none⟩ = some u) (i : Nat) (hi : i < marks.length) :
    w.cell? ⟨g, i * 3, none⟩ = some (.int .i64 (marks.getD i mkNo).1) ∧ w.cell? ⟨g, i * 3 + 1, none⟩ = some (.int .i64 (marks.getD i mkNo).2.1) ∧ w.cell? ⟨g, i * 3 + 2, none⟩ = some (.int .i64 (marks.getD i mkNo).2.2) := by
  have h6 : ∀ j, j < 3 → (marks.flatMap mkCells)[i * 3 + j]? = (mkCells (marks.getD i mkNo))[j]? := fun j hj => by
    rw [flat_get mkCells 3 (fun _ => rfl) marks i j hj, List.getElem?_eq_getElem hi]
    simp [List.getD_eq_getElem?_getD, List.getElem?_eq_getElem hi]
  have hx := fun j (hj : j < 3) u hu => hc (i * 3 + j) u (by rw [h6 j hj]; exact hu)
  exact ⟨hx 0 (by omega) _ rfl, hx 1 (by omega) _ rfl, hx 2 (by omega) _ rfl⟩

end Go.Proofs.Ytjikemhmnkckcab
namespace Go.Proofs.Ytjikemhmnkckcab
open Go.RowKit

end Go.Proofs.Ytjikemhmnkckcab
/- The document's access: shape, Access, Usable. -/
namespace Go.Proofs.Ytjikemhmnkckcab
open Go.RowKit

namespace Ref
def shapeB (n : Int) : Bool := n == 1 || n == 2 || n == 4 || n == 8
/-- one byte after the other: the error, the address -/
def accFrom (tag : Int → Int) (t a : Int) : Nat → Nat → Int × Int
  | 0, _ => (0, 0)
  | f + 1, i => if tag (a + i) = -1 then (6, a + i) else if tag (a + i) = 15 ∨ tag (a + i) ≠ t then (7, a + i) else accFrom tag t a f (i + 1)
end Ref
def RSt.tag (R : RSt) (addr : Int) : Int := Cf.tag R.st R.cls R.log addr
def RSt.access (R : RSt) (q n : Int) : Int × Int :=
  if n < 0 ∨ 65536 < n then (2, 0) else if n = 0 then (0, 0) else if Ref.tameB q then Ref.accFrom R.tag (q / 72057594037927936) (q % 72057594037927936) n.toNat 0 else (5, 0)

theorem shape_of {n : Int} (h : Ref.shapeB n = true) : n = 1 ∨ n = 2 ∨ n = 4 ∨ n = 8 := by simpa [Ref.shapeB, or_assoc] using h
theorem shape_no {n : Int} (h1 : n ≠ 1) (h2 : n ≠ 2) (h4 : n ≠ 4) (h8 : n ≠ 8) : Ref.shapeB n = false := by simp [Ref.shapeB, *]

end Go.Proofs.Ytjikemhmnkckcab
