import Derived.Test.YtjikemhmnkckcabGreatJ23
namespace Go.Proofs.YtjikemhmnkckcabGreat
open Go.RowKit

/-- an op's cells -/
abbrev opV (o0 o1 o2 o3 o4 o5 o6 o7 o8 : Int) : Array Value := #[.int .i64 o0, .int .i64 o1, .int .i64 o2, .int .i64 o3, .int .i64 o4, .int .i64 o5, .int .i64 o6, .int .i64 o7, .int .i64 o8]

end Go.Proofs.YtjikemhmnkckcabGreat
namespace Go.Proofs.YtjikemhmnkckcabGreat
open Go.RowKit

/-- the kinds that are played -/
def kindAt (n : Nat) : Int := if n = 0 then 1 else if n = 1 then 2 else 10
def isKind (k : Int) : Bool := k == 1 || k == 2 || k == 10
theorem isKind_at (n : Nat) : isKind (kindAt n) = true := by unfold kindAt; split <;> (try split) <;> rfl
theorem isKind_no (k : Int) (h : ∀ m, m < 3 → kindAt m ≠ k) : isKind k = false := by
  have h0 := h 0 (by omega); have h1 := h 1 (by omega); have h2 := h 2 (by omega)
  simp [kindAt] at h0 h1 h2
  simp [isKind]; omega
theorem isKind_of {k : Int} (h : isKind k = true) : k = 1 ∨ k = 2 ∨ k = 10 := by simpa [isKind, or_assoc] using h

end Go.Proofs.YtjikemhmnkckcabGreat
namespace Go.Proofs.YtjikemhmnkckcabGreat
open Go.RowKit

/-- a script in memory: element i's number j -/
structure PlayRow (w : World) (a : Option Addr) (n c : Nat) (v : Nat → Nat → Int) : Prop where
  len : n ≤ c
  cap : c ≤ maxLen
  cells : 0 < n → ∃ g off, a = some ⟨g, off, none⟩ ∧ g < w.heap.size ∧ ∀ i, i < n → ∀ j, j < 9 → w.cell? ⟨g, off + i * 9 + j, none⟩ = some (.int .i64 (v i j))
  bd : ∀ i, i < n → ∀ j, j < 9 → -9223372036854775808 ≤ v i j ∧ v i j ≤ 9223372036854775807
theorem PlayRow.below {w w' : World} {a : Option Addr} {len cap : Nat} {v : Nat → Nat → Int} (h : PlayRow w a len cap v) (hb : Below w.heap.size w w') : PlayRow w' a len cap v :=
  ⟨h.len, h.cap, fun h0 => by
    obtain ⟨g, off, ha, hg, hc⟩ := h.cells h0
    exact ⟨g, off, ha, Nat.lt_of_lt_of_le hg hb.size, fun i hi j hj => (hb.cell (p := ⟨g, off + i * 9 + j, none⟩) hg).trans (hc i hi j hj)⟩, h.bd⟩

end Go.Proofs.YtjikemhmnkckcabGreat
