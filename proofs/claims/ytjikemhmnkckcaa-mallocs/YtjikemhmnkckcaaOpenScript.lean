import Derived.Test.YtjikemhmnkckcaaOpenConf
import Derived.Test.YtjikemhmnkckcaaLawPlay3
import Derived.WideShapes
/- A script among the arguments, opened. -/
namespace Go.Proofs.Ytjikemhmnkckcaa
open Go.ChangeShapes Go.WideShapes Go.ChangeAt Go.RowKit Go.Joins Go.Deep

theorem bytes_op : Try.prog.bytesOf 98 = 72 := by kernel_rfl
theorem cells_op : Try.prog.cellsOf 98 = 9 := by kernel_rfl

theorem take_one {l : List Value} {j : Nat} {v : Value} (h : (l.drop j).take 1 = [v]) : l[j]? = some v := by
  have := congrArg (fun x => x[0]?) h
  simpa [List.getElem?_take, List.getElem?_drop] using this

set_option maxRecDepth 100000 in
theorem open_op {H : Type} {enc : TypeId × Value → H} {W : World} {base : Nat} {sp : Nat → Bool} {held : Bool} {fuel : Nat} {cs : List Value} {x : DataW H × List MemPlace} (h : DataW.trod enc Try.prog W base sp held fuel 98 cs = some x) :
    ∃ u : Nat → Int, ∀ j, j < 9 → cs[j]? = some (.int .i64 (u j)) ∧ -9223372036854775808 ≤ u j ∧ u j ≤ 9223372036854775807 := by
  obtain ⟨xs, n, _, _, _, hlen, hf⟩ := DataW.trod_struct Try.underlying98 h
  have hl : xs.length = 9 := hlen
  have hx : ∀ j (hj : j < xs.length), xs[j]? = some xs[j] := fun j hj => List.getElem?_eq_getElem hj
  have fin : ∀ j y, DataW.trod enc Try.prog W base sp held n 3 ((cs.drop j).take 1) = some y → ∃ z : Int, cs[j]? = some (.int .i64 z) ∧ -9223372036854775808 ≤ z ∧ z ≤ 9223372036854775807 := by
    intro j y hy
    obtain ⟨z, ez, _, wz⟩ := DataW.trod_int Try.underlying3 hy
    have hb := bounds_i64 wz
    exact ⟨z, take_one ez, hb.1, hb.2⟩
  have key : ∀ j, j < 9 → ∃ z : Int, cs[j]? = some (.int .i64 z) ∧ -9223372036854775808 ≤ z ∧ z ≤ 9223372036854775807 := by
    intro j hj
    match j, hj with
    | 0, _ => exact fin 0 _ ((hf 0 _ rfl).trans (hx 0 (by omega)))
    | 1, _ => exact fin 1 _ ((hf 1 _ rfl).trans (hx 1 (by omega)))
    | 2, _ => exact fin 2 _ ((hf 2 _ rfl).trans (hx 2 (by omega)))
    | 3, _ => exact fin 3 _ ((hf 3 _ rfl).trans (hx 3 (by omega)))
    | 4, _ => exact fin 4 _ ((hf 4 _ rfl).trans (hx 4 (by omega)))
    | 5, _ => exact fin 5 _ ((hf 5 _ rfl).trans (hx 5 (by omega)))
    | 6, _ => exact fin 6 _ ((hf 6 _ rfl).trans (hx 6 (by omega)))
    | 7, _ => exact fin 7 _ ((hf 7 _ rfl).trans (hx 7 (by omega)))
    | 8, _ => exact fin 8 _ ((hf 8 _ rfl).trans (hx 8 (by omega)))
  obtain ⟨u, hu⟩ := choose_lt key
  exact ⟨u, hu⟩

set_option maxRecDepth 100000 in
theorem open_script {H : Type} {enc : TypeId × Value → H} {W : World} {base b0 : Nat} {sp : Nat → Bool} {held : Bool} {v : Value} {d : DataW H} {p : List MemPlace}
    (hv : Value.okWide Try.prog W .any b0 39 v) (h : DataW.Trod enc Try.prog W base sp held 39 v d p) :
    ∃ (a : Option Addr) (len cap : Nat) (u : Nat → Nat → Int), v = .slice a len cap ∧ SRow W a len cap u ∧
      ((DataW.weights Try.prog 39 d).all (· ≤ reachBytes) = true → len * 72 ≤ 140737488351232) := by
  obtain ⟨a0, len0, cap0, rfl⟩ := okWide_slice Try.underlying39 hv
  obtain ⟨fuel, hf⟩ := h
  rcases open_slice Try.underlying39 hf with ⟨e2, ex⟩ | ⟨a, len, cap, m, n', D, Pl, e2, _, hl, hm, hmm, ex, hx⟩
  · simp [Value.cells] at e2
    obtain ⟨rfl, rfl, rfl⟩ := e2
    exact ⟨none, 0, 0, fun _ _ => 0, rfl, ⟨Nat.le_refl _, by simp [maxLen], fun h => absurd h (by simp), fun i hi => absurd hi (by omega)⟩, fun _ => by simp⟩
  · simp [Value.cells] at e2
    obtain ⟨rfl, rfl, rfl⟩ := e2
    rw [cells_op] at hx
    have hlm : len0 ≤ m := by rw [hmm]; split <;> omega
    have each : ∀ i, i < len0 → ∃ u : Nat → Int, ∀ j, j < 9 → W.cell? (a.add (i * 9 + j)) = some (.int .i64 (u j)) ∧ -9223372036854775808 ≤ u j ∧ u j ≤ 9223372036854775807 := fun i hi => by
      obtain ⟨cs', h1, h2⟩ := hx i (by omega)
      obtain ⟨u, hu⟩ := open_op h2
      obtain ⟨_, _, hc⟩ := World.cells?_some h1
      refine ⟨u, fun j hj => ⟨?_, (hu j hj).2⟩⟩
      rw [← add_add, hc j hj]
      exact (hu j hj).1
    obtain ⟨u, hu⟩ := choose_lt each
    refine ⟨some a, len0, cap0, u, rfl, ⟨hl, hm, fun h0 => ?_, fun i hi j hj => (hu i hi j hj).2⟩, fun hw => ?_⟩
    · obtain ⟨g, off, spot⟩ := a
      have hc0 := (hu 0 (by omega) 0 (by omega)).1
      have hspot : spot = none := by simpa [Addr.add] using World.cell?_spot hc0
      subst hspot
      refine ⟨g, off, rfl, ?_, fun i hi j hj => ?_⟩
      · have := World.block_lt_of_cell? W _ hc0
        simpa [Addr.add] using this
      · rw [Nat.add_assoc, ← addr_add]; exact (hu i hi j hj).1
    · simp only [Prod.mk.injEq] at ex
      obtain ⟨rfl, _⟩ := ex
      have hmem : (len0 + (m - len0)) * 72 ≤ reachBytes := by
        have := List.all_eq_true.1 hw ((len0 + (m - len0)) * 72) (by simp [DataW.weights, Try.underlying39, bytes_op])
        simpa using this
      simp only [reachBytes] at hmem
      omega
end Go.Proofs.Ytjikemhmnkckcaa
