import Derived.Test.YtjikemhmnkckcabRefRep
import Derived.Test.YtjikemhmnkckcabConfMath
/- A list of classes that can be read (whoever owns it). -/
namespace Go.Proofs.Ytjikemhmnkckcab
open Go.RowKit

/-- the list's cells -/
def CCells (w : World) (a : Option Addr) (cls : List (Int × Int)) : Prop :=
  0 < cls.length → ∃ g off, a = some ⟨g, off, none⟩ ∧ g < w.heap.size ∧ ∀ i, i < cls.length → w.cell? ⟨g, off + i * 2, none⟩ = some (.int .i64 (Cf.gr cls i)) ∧ w.cell? ⟨g, off + i * 2 + 1, none⟩ = some (.int .i64 (Cf.sl cls i))

structure CRow (w : World) (a : Option Addr) (cap : Nat) (cls : List (Int × Int)) : Prop where
  len : cls.length ≤ cap
  cap : cap ≤ maxLen
  cells : CCells w a cls

theorem CRow.below {w w' : World} {a : Option Addr} {cap : Nat} {cls : List (Int × Int)} (h : CRow w a cap cls) (hb : Below w.heap.size w w') : CRow w' a cap cls :=
  ⟨h.len, h.cap, fun h0 => by
    obtain ⟨g, off, ha, hg, hc⟩ := h.cells h0
    exact ⟨g, off, ha, Nat.lt_of_lt_of_le hg hb.size, fun i hi => ⟨by rw [hb.cell (p := ⟨g, off + i * 2, none⟩) hg]; exact (hc i hi).1, by rw [hb.cell (p := ⟨g, off + i * 2 + 1, none⟩) hg]; exact (hc i hi).2⟩⟩⟩

theorem CRow.of_row {w : World} {v : Value} {cls : List (Int × Int)} (h : w.ownsRow 0 37 2 v cls.length (cls.flatMap clsCells)) :
    ∃ a cap, v = .slice a cls.length cap ∧ CRow w a cap cls := by
  obtain ⟨a, cap, rfl, h1, h2, h3⟩ := row_open h
  refine ⟨a, cap, rfl, h1, h2, fun h0 => ?_⟩
  obtain ⟨g, ha, hg, hc, _⟩ := h3 h0
  refine ⟨g, 0, ha, hg, fun i hi => ?_⟩
  have := cls_cells hc i hi
  simp only [Nat.zero_add]
  exact this
end Go.Proofs.Ytjikemhmnkckcab
