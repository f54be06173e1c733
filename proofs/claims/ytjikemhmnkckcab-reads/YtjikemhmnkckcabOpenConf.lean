import Derived.Test.YtjikemhmnkckcabRows
import Derived.Test.YtjikemhmnkckcabConfRep
import Derived.ProofKit
import Derived.OpenShut
import Derived.Lib.SmallJoins
import Derived.Deep.SlicePairs
import Derived.SizedLaws
/- A configuration among the arguments, opened. -/
namespace Go.Proofs.Ytjikemhmnkckcab
open Go.ChangeShapes Go.WideShapes Go.ChangeAt Go.RowKit Go.Joins Go.Deep

theorem bytes_cls : Try.prog.bytesOf 37 = 16 := by kernel_rfl
theorem cells_cls : Try.prog.cellsOf 37 = 2 := by kernel_rfl
theorem cells_conf : Try.prog.cellsOf 24 = 3 := by kernel_rfl
theorem cells_int : Try.prog.cellsOf 3 = 1 := by kernel_rfl

theorem addr_add (g off j : Nat) : (⟨g, off, none⟩ : Addr).add j = ⟨g, off + j, none⟩ := by unfold Addr.add; split <;> simp_all

set_option maxRecDepth 100000 in
theorem open_conf {H : Type} {enc : TypeId × Value → H} {W : World} {base b0 : Nat} {sp : Nat → Bool} {held : Bool} {v : Value} {d : DataW H} {p : List MemPlace}
    (hv : Value.okWide Try.prog W .any b0 24 v) (h : DataW.Trod enc Try.prog W base sp held 24 v d p) :
    ∃ (st rest : Int) (a : Option Addr) (cap : Nat) (cls : List (Int × Int)), v = .agg #[.int .i64 st, .int .i64 rest, .slice a cls.length cap] ∧ CRow W a cap cls ∧
      ((DataW.weights Try.prog 24 d).all (· ≤ reachBytes) = true → cls.length * 16 ≤ 140737488351232) := by
  obtain ⟨v0, v1, v2, y0, y1, y2, n, rfl, rfl, rfl, h0, h1, h2⟩ := open_agg3 Try.underlying24 (by kernel_rfl) cells_conf hv h
  obtain ⟨st, e0, rfl, w0⟩ := DataW.trod_int Try.underlying3 h0
  obtain ⟨rest, e1, rfl, w1⟩ := DataW.trod_int Try.underlying3 h1
  simp only [List.cons.injEq, and_true] at e0 e1
  subst e0 e1
  rcases open_slice_pairs Try.underlying22 Try.underlying37 cells_cls rfl rfl cells_int cells_int h2 with ⟨e2, rfl⟩ | ⟨a, len, cap, m, n', V0, V1, D0, D1, P0, P1, e2, _, hl, hm, hmm, rfl, hx⟩
  · simp only [List.cons.injEq, and_true] at e2
    subst e2
    exact ⟨st, rest, none, 0, [], rfl, ⟨Nat.le_refl _, by simp [maxLen], fun h => absurd h (by simp)⟩, fun _ => by simp⟩
  · simp only [List.cons.injEq, and_true] at e2
    subst e2
    have hlm : len ≤ m := by rw [hmm]; split <;> omega
    have each : ∀ i, i < len → ∃ q : Int × Int, V0 i = .int .i64 q.1 ∧ V1 i = .int .i64 q.2 := fun i hi => by
      obtain ⟨_, _, hx0, hx1⟩ := hx i (by omega)
      obtain ⟨x, ex, _, _⟩ := DataW.trod_int Try.underlying3 hx0
      obtain ⟨y, ey, _, _⟩ := DataW.trod_int Try.underlying3 hx1
      simp only [List.cons.injEq, and_true] at ex ey
      exact ⟨(x, y), ex, ey⟩
    obtain ⟨q, hq⟩ := choose_lt each
    refine ⟨st, rest, some a, cap, (List.range len).map q, by simp, ⟨by simpa using hl, hm, fun h0 => ?_⟩, fun hw => ?_⟩
    · simp only [List.length_map, List.length_range] at h0
      obtain ⟨g, off, spot⟩ := a
      have hc0 := (hx 0 (by omega)).1
      have hspot : spot = none := by simpa [Addr.add] using World.cell?_spot hc0
      subst hspot
      refine ⟨g, off, rfl, ?_, fun i hi => ?_⟩
      · have := World.block_lt_of_cell? W _ hc0
        simpa [Addr.add] using this
      · simp only [List.length_map, List.length_range] at hi
        obtain ⟨c0, c1, _, _⟩ := hx i (by omega)
        have hqi := hq i hi
        rw [hqi.1] at c0
        rw [hqi.2] at c1
        have eg : ((List.range len).map q).getD i (0, 0) = q i := by simp [List.getD_eq_getElem?_getD, hi]
        constructor
        · show W.cell? ⟨g, off + i * 2, none⟩ = some (.int .i64 (((List.range len).map q).getD i (0, 0)).1)
          rw [eg, ← addr_add]; exact c0
        · show W.cell? ⟨g, off + i * 2 + 1, none⟩ = some (.int .i64 (((List.range len).map q).getD i (0, 0)).2)
          rw [eg, Nat.add_assoc, ← addr_add]; exact c1
    · have hmem : (len + (m - len)) * 16 ≤ reachBytes := by
        have := List.all_eq_true.1 hw ((len + (m - len)) * 16) (by simp [DataW.weights, DataW.weightsEach, Try.underlying24, Try.underlying22, bytes_cls])
        simpa using this
      simp only [reachBytes] at hmem
      simp only [List.length_map, List.length_range]
      omega
end Go.Proofs.Ytjikemhmnkckcab
