import Derived.Test.YtjikemhmnkckcaaRows
import Derived.Test.YtjikemhmnkckcaaJ2
import Derived.ProofKit
import Derived.OpenShut
import Derived.Lib.SmallJoins
import Derived.Deep.SlicePairs
import Derived.SizedLaws
import Derived.Test.YtjikemhmnkckcaaJ23
import Derived.WideShapes
import Derived.Test.YtjikemhmnkckcaaJ46
/- A configuration among the arguments, opened. -/
namespace Go.Proofs.Ytjikemhmnkckcaa
open Go.ChangeShapes Go.WideShapes Go.ChangeAt Go.RowKit Go.Joins Go.Deep

theorem bytes_cls : Try.prog.bytesOf 67 = 16 := by kernel_rfl
theorem cells_cls : Try.prog.cellsOf 67 = 2 := by kernel_rfl
theorem cells_conf : Try.prog.cellsOf 24 = 3 := by kernel_rfl
theorem cells_int : Try.prog.cellsOf 3 = 1 := by kernel_rfl

theorem addr_add (g off j : Nat) : (⟨g, off, none⟩ : Addr).add j = ⟨g, off + j, none⟩ := by unfold Addr.add; split <;> simp_all

set_option maxRecDepth 100000 in
theorem open_conf {H : Type} {enc : TypeId × Value → H} {W : World} {base b0 : Nat} {sp : Nat → Bool} {held : Bool} {v : Value} {d : DataW H} {p : List MemPlace}
    (hv : Value.okWide Try.prog W .any b0 24 v) (h : DataW.Trod enc Try.prog W base sp held 24 v d p) :
    ∃ (st rest : Int) (a : Option Addr) (cap : Nat) (cls : List (Int × Int)), v = .agg #[.int .i64 st, .int .i64 rest, .slice a cls.length cap] ∧ CRow W a cap cls ∧
      ((DataW.weights Try.prog 24 d).all (· ≤ reachBytes) = true → cls.length * 16 ≤ 140737488351232) := by
  obtain ⟨v0, v1, v2, y0, y1, y2, n, rfl, rfl, rfl, h0, h1, h2⟩ := open_agg3 Try.underlying24 (by kernel_rfl) cells_conf hv h
  obtain ⟨st, e0, rfl, w0⟩ := DataW.trod_int Try.underlying3 h0
  obtain ⟨rest, e1, rfl, w1⟩ := DataW.trod_int Try.underlying3 h1
  simp only [List.cons.injEq, and_true] at e0 e1
  subst e0 e1
  rcases open_slice_pairs Try.underlying22 Try.underlying67 cells_cls rfl rfl cells_int cells_int h2 with ⟨e2, rfl⟩ | ⟨a, len, cap, m, n', V0, V1, D0, D1, P0, P1, e2, _, hl, hm, hmm, rfl, hx⟩
  · simp only [List.cons.injEq, and_true] at e2
    subst e2
    exact ⟨st, rest, none, 0, [], rfl, ⟨Nat.le_refl _, by simp [maxLen], fun h => absurd h (by simp)⟩, fun _ => by simp⟩
  · simp only [List.cons.injEq, and_true] at e2
    subst e2
    have hlm : len ≤ m := by rw [hmm]; split <;> omega
    have each : ∀ i, i < len → ∃ q : Int × Int, V0 i = .int .i64 q.1 ∧ V1 i = .int .i64 q.2 := fun i hi => by
      obtain ⟨_, _, hx0, hx1⟩ := hx i (by omega)
      obtain ⟨x, ex, _, _⟩ := DataW.trod_int Try.underlying3 hx0
      obtain ⟨y, ey, _, _⟩ := DataW.trod_int Try.underlying3 hx1
      simp only [List.cons.injEq, and_true] at ex ey
      exact ⟨(x, y), ex, ey⟩
    obtain ⟨q, hq⟩ := choose_lt each
    refine ⟨st, rest, some a, cap, (List.range len).map q, by simp, ⟨by simpa using hl, hm, fun h0 => ?_⟩, fun hw => ?_⟩
    · simp only [List.length_map, List.length_range] at h0
      obtain ⟨g, off, spot⟩ := a
      have hc0 := (hx 0 (by omega)).1
      have hspot : spot = none := by simpa [Addr.add] using World.cell?_spot hc0
      subst hspot
      refine ⟨g, off, rfl, ?_, fun i hi => ?_⟩
      · have := World.block_lt_of_cell? W _ hc0
        simpa [Addr.add] using this
      · simp only [List.length_map, List.length_range] at hi
        obtain ⟨c0, c1, _, _⟩ := hx i (by omega)
        have hqi := hq i hi
        rw [hqi.1] at c0
        rw [hqi.2] at c1
        have eg : ((List.range len).map q).getD i (0, 0) = q i := by simp [List.getD_eq_getElem?_getD, hi]
        constructor
        · show W.cell? ⟨g, off + i * 2, none⟩ = some (.int .i64 (((List.range len).map q).getD i (0, 0)).1)
          rw [eg, ← addr_add]; exact c0
        · show W.cell? ⟨g, off + i * 2 + 1, none⟩ = some (.int .i64 (((List.range len).map q).getD i (0, 0)).2)
          rw [eg, Nat.add_assoc, ← addr_add]; exact c1
    · have hmem : (len + (m - len)) * 16 ≤ reachBytes := by
        have := List.all_eq_true.1 hw ((len + (m - len)) * 16) (by simp [DataW.weights, DataW.weightsEach, Try.underlying24, Try.underlying22, bytes_cls])
        simpa using this
      simp only [reachBytes] at hmem
      simp only [List.length_map, List.length_range]
      omega
end Go.Proofs.Ytjikemhmnkckcaa
/- A script among the arguments, opened. -/
namespace Go.Proofs.Ytjikemhmnkckcaa
open Go.ChangeShapes Go.WideShapes Go.ChangeAt Go.RowKit Go.Joins Go.Deep

theorem bytes_op : Try.prog.bytesOf 98 = 72 := by kernel_rfl
theorem cells_op : Try.prog.cellsOf 98 = 9 := by kernel_rfl

theorem take_one {l : List Value} {j : Nat} {v : Value} (h : (l.drop j).take 1 = [v]) : l[j]? = some v := by
  have := congrArg (fun x => x[0]?) h
  simpa [List.getElem?_take, List.getElem?_drop] using this

set_option maxRecDepth 100000 in
theorem open_op {H : Type} {enc : TypeId × Value → H} {W : World} {base : Nat} {sp : Nat → Bool} {held : Bool} {fuel : Nat} {cs : List Value} {x : DataW H × List MemPlace} (h : DataW.trod enc Try.prog W base sp held fuel 98 cs = some x) :
    ∃ u : Nat → Int, ∀ j, j < 9 → cs[j]? = some (.int .i64 (u j)) ∧ -9223372036854775808 ≤ u j ∧ u j ≤ 9223372036854775807 := by
  obtain ⟨xs, n, _, _, _, hlen, hf⟩ := DataW.trod_struct Try.underlying98 h
  have hl : xs.length = 9 := hlen
  have hx : ∀ j (hj : j < xs.length), xs[j]? = some xs[j] := fun j hj => List.getElem?_eq_getElem hj
  have fin : ∀ j y, DataW.trod enc Try.prog W base sp held n 3 ((cs.drop j).take 1) = some y → ∃ z : Int, cs[j]? = some (.int .i64 z) ∧ -9223372036854775808 ≤ z ∧ z ≤ 9223372036854775807 := by
    intro j y hy
    obtain ⟨z, ez, _, wz⟩ := DataW.trod_int Try.underlying3 hy
    have hb := bounds_i64 wz
    exact ⟨z, take_one ez, hb.1, hb.2⟩
  have key : ∀ j, j < 9 → ∃ z : Int, cs[j]? = some (.int .i64 z) ∧ -9223372036854775808 ≤ z ∧ z ≤ 9223372036854775807 := by
    intro j hj
    match j, hj with
    | 0, _ => exact fin 0 _ ((hf 0 _ rfl).trans (hx 0 (by omega)))
    | 1, _ => exact fin 1 _ ((hf 1 _ rfl).trans (hx 1 (by omega)))
    | 2, _ => exact fin 2 _ ((hf 2 _ rfl).trans (hx 2 (by omega)))
    | 3, _ => exact fin 3 _ ((hf 3 _ rfl).trans (hx 3 (by omega)))
    | 4, _ => exact fin 4 _ ((hf 4 _ rfl).trans (hx 4 (by omega)))
    | 5, _ => exact fin 5 _ ((hf 5 _ rfl).trans (hx 5 (by omega)))
    | 6, _ => exact fin 6 _ ((hf 6 _ rfl).trans (hx 6 (by omega)))
    | 7, _ => exact fin 7 _ ((hf 7 _ rfl).trans (hx 7 (by omega)))
    | 8, _ => exact fin 8 _ ((hf 8 _ rfl).trans (hx 8 (by omega)))
  obtain ⟨u, hu⟩ := choose_lt key
  exact ⟨u, hu⟩

set_option maxRecDepth 100000 in
theorem open_script {H : Type} {enc : TypeId × Value → H} {W : World} {base b0 : Nat} {sp : Nat → Bool} {held : Bool} {v : Value} {d : DataW H} {p : List MemPlace}
    (hv : Value.okWide Try.prog W .any b0 39 v) (h : DataW.Trod enc Try.prog W base sp held 39 v d p) :
    ∃ (a : Option Addr) (len cap : Nat) (u : Nat → Nat → Int), v = .slice a len cap ∧ PlayRow W a len cap u ∧
      ((DataW.weights Try.prog 39 d).all (· ≤ reachBytes) = true → len * 72 ≤ 140737488351232) := by
  obtain ⟨a0, len0, cap0, rfl⟩ := okWide_slice Try.underlying39 hv
  obtain ⟨fuel, hf⟩ := h
  rcases open_slice Try.underlying39 hf with ⟨e2, ex⟩ | ⟨a, len, cap, m, n', D, Pl, e2, _, hl, hm, hmm, ex, hx⟩
  · simp [Value.cells] at e2
    obtain ⟨rfl, rfl, rfl⟩ := e2
    exact ⟨none, 0, 0, fun _ _ => 0, rfl, ⟨Nat.le_refl _, by simp [maxLen], fun h => absurd h (by simp), fun i hi => absurd hi (by omega)⟩, fun _ => by simp⟩
  · simp [Value.cells] at e2
    obtain ⟨rfl, rfl, rfl⟩ := e2
    rw [cells_op] at hx
    have hlm : len0 ≤ m := by rw [hmm]; split <;> omega
    have each : ∀ i, i < len0 → ∃ u : Nat → Int, ∀ j, j < 9 → W.cell? (a.add (i * 9 + j)) = some (.int .i64 (u j)) ∧ -9223372036854775808 ≤ u j ∧ u j ≤ 9223372036854775807 := fun i hi => by
      obtain ⟨cs', h1, h2⟩ := hx i (by omega)
      obtain ⟨u, hu⟩ := open_op h2
      obtain ⟨_, _, hc⟩ := World.cells?_some h1
      refine ⟨u, fun j hj => ⟨?_, (hu j hj).2⟩⟩
      rw [← add_add, hc j hj]
      exact (hu j hj).1
    obtain ⟨u, hu⟩ := choose_lt each
    refine ⟨some a, len0, cap0, u, rfl, ⟨hl, hm, fun h0 => ?_, fun i hi j hj => (hu i hi j hj).2⟩, fun hw => ?_⟩
    · obtain ⟨g, off, spot⟩ := a
      have hc0 := (hu 0 (by omega) 0 (by omega)).1
      have hspot : spot = none := by simpa [Addr.add] using World.cell?_spot hc0
      subst hspot
      refine ⟨g, off, rfl, ?_, fun i hi j hj => ?_⟩
      · have := World.block_lt_of_cell? W _ hc0
        simpa [Addr.add] using this
      · rw [Nat.add_assoc, ← addr_add]; exact (hu i hi j hj).1
    · simp only [Prod.mk.injEq] at ex
      obtain ⟨rfl, _⟩ := ex
      have hmem : (len0 + (m - len0)) * 72 ≤ reachBytes := by
        have := List.all_eq_true.1 hw ((len0 + (m - len0)) * 72) (by simp [DataW.weights, Try.underlying39, bytes_op])
        simpa using this
      simp only [reachBytes] at hmem
      omega
end Go.Proofs.Ytjikemhmnkckcaa
/- What the bound on the arguments' bulk says of a slice's length. -/
namespace Go.Proofs.Ytjikemhmnkckcaa
open Go.ChangeShapes Go.WideShapes Go.ChangeAt Go.RowKit Go.Joins Go.Deep

theorem bulk_pos {H : Type} (d : DataW H) : 0 < Rows.uptoBulk d := by
  cases d
  case lit l => cases l <;> simp [Rows.uptoBulk]
  all_goals simp [Rows.uptoBulk]
theorem bulk_many {H : Type} (xs : List (DataW H)) : xs.length ≤ Rows.uptoBulkAll xs := by
  induction xs with
  | nil => exact Nat.zero_le _
  | cons x xs ih =>
    have := bulk_pos x
    simp only [List.length_cons, Rows.uptoBulkAll]
    omega
theorem bulk_slice {H : Type} {enc : TypeId × Value → H} {W : World} {base : Nat} {sp : Nat → Bool} {held : Bool} {t e : TypeId} (ht : Try.prog.underlying t = some (.slice e)) {a : Option Addr} {len cap : Nat} {d : DataW H} {p : List MemPlace}
    (h : DataW.Trod enc Try.prog W base sp held t (.slice a len cap) d p) : len ≤ Rows.uptoBulk d := by
  obtain ⟨fuel, hf⟩ := h
  rcases open_slice ht hf with ⟨e2, _⟩ | ⟨a', len', cap', m, n', D, Pl, e2, _, _, _, _, ex, _⟩
  · simp [Value.cells] at e2
    omega
  · simp [Value.cells] at e2
    obtain ⟨_, rfl, _⟩ := e2
    simp only [Prod.mk.injEq] at ex
    obtain ⟨rfl, _⟩ := ex
    have := bulk_many ((List.range len).map D)
    rw [List.length_map, List.length_range] at this
    simp only [Rows.uptoBulk]
    omega
end Go.Proofs.Ytjikemhmnkckcaa
/- A script among the arguments, opened. -/
namespace Go.Proofs.Ytjikemhmnkckcaa
open Go.ChangeShapes Go.WideShapes Go.ChangeAt Go.RowKit Go.Joins Go.Deep

theorem bytes_stp : Try.prog.bytesOf 103 = 32 := by kernel_rfl
theorem cells_stp : Try.prog.cellsOf 103 = 4 := by kernel_rfl

set_option maxRecDepth 100000 in
theorem open_stp {H : Type} {enc : TypeId × Value → H} {W : World} {base : Nat} {sp : Nat → Bool} {held : Bool} {fuel : Nat} {cs : List Value} {x : DataW H × List MemPlace} (h : DataW.trod enc Try.prog W base sp held fuel 103 cs = some x) :
    ∃ u : Nat → Int, ∀ j, j < 4 → cs[j]? = some (.int .i64 (u j)) ∧ -9223372036854775808 ≤ u j ∧ u j ≤ 9223372036854775807 := by
  obtain ⟨xs, n, _, _, _, hlen, hf⟩ := DataW.trod_struct Try.underlying103 h
  have hl : xs.length = 4 := hlen
  have hx : ∀ j (hj : j < xs.length), xs[j]? = some xs[j] := fun j hj => List.getElem?_eq_getElem hj
  have fin : ∀ j y, DataW.trod enc Try.prog W base sp held n 3 ((cs.drop j).take 1) = some y → ∃ z : Int, cs[j]? = some (.int .i64 z) ∧ -9223372036854775808 ≤ z ∧ z ≤ 9223372036854775807 := by
    intro j y hy
    obtain ⟨z, ez, _, wz⟩ := DataW.trod_int Try.underlying3 hy
    have hb := bounds_i64 wz
    exact ⟨z, take_one ez, hb.1, hb.2⟩
  have key : ∀ j, j < 4 → ∃ z : Int, cs[j]? = some (.int .i64 z) ∧ -9223372036854775808 ≤ z ∧ z ≤ 9223372036854775807 := by
    intro j hj
    match j, hj with
    | 0, _ => exact fin 0 _ ((hf 0 _ rfl).trans (hx 0 (by omega)))
    | 1, _ => exact fin 1 _ ((hf 1 _ rfl).trans (hx 1 (by omega)))
    | 2, _ => exact fin 2 _ ((hf 2 _ rfl).trans (hx 2 (by omega)))
    | 3, _ => exact fin 3 _ ((hf 3 _ rfl).trans (hx 3 (by omega)))
  obtain ⟨u, hu⟩ := choose_lt key
  exact ⟨u, hu⟩

set_option maxRecDepth 100000 in
theorem open_steps {H : Type} {enc : TypeId × Value → H} {W : World} {base b0 : Nat} {sp : Nat → Bool} {held : Bool} {v : Value} {d : DataW H} {p : List MemPlace}
    (hv : Value.okWide Try.prog W .any b0 43 v) (h : DataW.Trod enc Try.prog W base sp held 43 v d p) :
    ∃ (a : Option Addr) (len cap : Nat) (u : Nat → Nat → Int), v = .slice a len cap ∧ TRow W a len cap u ∧
      ((DataW.weights Try.prog 43 d).all (· ≤ reachBytes) = true → len * 32 ≤ 140737488351232) := by
  obtain ⟨a0, len0, cap0, rfl⟩ := okWide_slice Try.underlying43 hv
  obtain ⟨fuel, hf⟩ := h
  rcases open_slice Try.underlying43 hf with ⟨e2, ex⟩ | ⟨a, len, cap, m, n', D, Pl, e2, _, hl, hm, hmm, ex, hx⟩
  · simp [Value.cells] at e2
    obtain ⟨rfl, rfl, rfl⟩ := e2
    exact ⟨none, 0, 0, fun _ _ => 0, rfl, ⟨Nat.le_refl _, by simp [maxLen], fun h => absurd h (by simp), fun i hi => absurd hi (by omega)⟩, fun _ => by simp⟩
  · simp [Value.cells] at e2
    obtain ⟨rfl, rfl, rfl⟩ := e2
    rw [cells_stp] at hx
    have hlm : len0 ≤ m := by rw [hmm]; split <;> omega
    have each : ∀ i, i < len0 → ∃ u : Nat → Int, ∀ j, j < 4 → W.cell? (a.add (i * 4 + j)) = some (.int .i64 (u j)) ∧ -9223372036854775808 ≤ u j ∧ u j ≤ 9223372036854775807 := fun i hi => by
      obtain ⟨cs', h1, h2⟩ := hx i (by omega)
      obtain ⟨u, hu⟩ := open_stp h2
      obtain ⟨_, _, hc⟩ := World.cells?_some h1
      refine ⟨u, fun j hj => ⟨?_, (hu j hj).2⟩⟩
      rw [← add_add, hc j hj]
      exact (hu j hj).1
    obtain ⟨u, hu⟩ := choose_lt each
    refine ⟨some a, len0, cap0, u, rfl, ⟨hl, hm, fun h0 => ?_, fun i hi j hj => (hu i hi j hj).2⟩, fun hw => ?_⟩
    · obtain ⟨g, off, spot⟩ := a
      have hc0 := (hu 0 (by omega) 0 (by omega)).1
      have hspot : spot = none := by simpa [Addr.add] using World.cell?_spot hc0
      subst hspot
      refine ⟨g, off, rfl, ?_, fun i hi j hj => ?_⟩
      · have := World.block_lt_of_cell? W _ hc0
        simpa [Addr.add] using this
      · rw [Nat.add_assoc, ← addr_add]; exact (hu i hi j hj).1
    · simp only [Prod.mk.injEq] at ex
      obtain ⟨rfl, _⟩ := ex
      have hmem : (len0 + (m - len0)) * 32 ≤ reachBytes := by
        have := List.all_eq_true.1 hw ((len0 + (m - len0)) * 32) (by simp [DataW.weights, Try.underlying43, bytes_stp])
        simpa using this
      simp only [reachBytes] at hmem
      omega

set_option maxRecDepth 100000 in
theorem conf_bd {H : Type} {enc : TypeId × Value → H} {W : World} {base b0 : Nat} {sp : Nat → Bool} {held : Bool} {st rest : Int} {x : Value} {d : DataW H} {p : List MemPlace}
    (hv : Value.okWide Try.prog W .any b0 24 (.agg #[.int .i64 st, .int .i64 rest, x])) (h : DataW.Trod enc Try.prog W base sp held 24 (.agg #[.int .i64 st, .int .i64 rest, x]) d p) :
    (-9223372036854775808 ≤ st ∧ st ≤ 9223372036854775807) ∧ -9223372036854775808 ≤ rest ∧ rest ≤ 9223372036854775807 := by
  obtain ⟨v0, v1, v2, y0, y1, y2, n, ev, _, _, h0, h1, h2⟩ := open_agg3 Try.underlying24 (by kernel_rfl) cells_conf hv h
  obtain ⟨st', e0, _, w0⟩ := DataW.trod_int Try.underlying3 h0
  obtain ⟨rest', e1, _, w1⟩ := DataW.trod_int Try.underlying3 h1
  simp only [List.cons.injEq, and_true] at e0 e1
  subst e0 e1
  simp at ev
  obtain ⟨rfl, rfl, _⟩ := ev
  exact ⟨bounds_i64 w0, bounds_i64 w1⟩
end Go.Proofs.Ytjikemhmnkckcaa
