import Derived.Test.YtjikemhmnkckcabRows
import Derived.Test.YtjikemhmnkckcabJ3
import Derived.ProofKit
import Derived.OpenShut
import Derived.Lib.SmallJoins
import Derived.Deep.SlicePairs
import Derived.SizedLaws
import Derived.Test.YtjikemhmnkckcabJ31
import Derived.ChangeMaps5
import Derived.WideShapes
import Derived.Test.YtjikemhmnkckcabJ39
import Derived.ChangeSlices
/- A configuration among the arguments, opened. -/
namespace Go.Proofs.Ytjikemhmnkckcab
open Go.ChangeShapes Go.WideShapes Go.ChangeAt Go.RowKit Go.Joins Go.Deep

theorem bytes_cls : Try.prog.bytesOf 37 = 16 := by kernel_rfl
theorem cells_cls : Try.prog.cellsOf 37 = 2 := by kernel_rfl
theorem cells_conf : Try.prog.cellsOf 24 = 3 := by kernel_rfl
theorem cells_int : Try.prog.cellsOf 3 = 1 := by kernel_rfl

theorem addr_add (g off j : Nat) : (⟨g, off, none⟩ : Addr).add j = ⟨g, off + j, none⟩ := by unfold Addr.add; split <;> simp_all

set_option maxRecDepth 100000 in
theorem open_conf {H : Type} {enc : TypeId × Value → H} {W : World} {base b0 : Nat} {sp : Nat → Bool} {held : Bool} {v : Value} {d : DataW H} {p : List MemPlace}
    (hv : Value.okWide Try.prog W .any b0 24 v) (h : DataW.Trod enc Try.prog W base sp held 24 v d p) :
    ∃ (st rest : Int) (a : Option Addr) (cap : Nat) (cls : List (Int × Int)), v = .agg #[.int .i64 st, .int .i64 rest, .slice a cls.length cap] ∧ CRow W a cap cls ∧
      ((DataW.weights Try.prog 24 d).all (· ≤ reachBytes) = true → cls.length * 16 ≤ 140737488351232) := by
  obtain ⟨v0, v1, v2, y0, y1, y2, n, rfl, rfl, rfl, h0, h1, h2⟩ := open_agg3 Try.underlying24 (by kernel_rfl) cells_conf hv h
  obtain ⟨st, e0, rfl, w0⟩ := DataW.trod_int Try.underlying3 h0
  obtain ⟨rest, e1, rfl, w1⟩ := DataW.trod_int Try.underlying3 h1
  simp only [List.cons.injEq, and_true] at e0 e1
  subst e0 e1
  rcases open_slice_pairs Try.underlying22 Try.underlying37 cells_cls rfl rfl cells_int cells_int h2 with ⟨e2, rfl⟩ | ⟨a, len, cap, m, n', V0, V1, D0, D1, P0, P1, e2, _, hl, hm, hmm, rfl, hx⟩
  · simp only [List.cons.injEq, and_true] at e2
    subst e2
    exact ⟨st, rest, none, 0, [], rfl, ⟨Nat.le_refl _, by simp [maxLen], fun h => absurd h (by simp)⟩, fun _ => by simp⟩
  · simp only [List.cons.injEq, and_true] at e2
    subst e2
    have hlm : len ≤ m := by rw [hmm]; split <;> omega
    have each : ∀ i, i < len → ∃ q : Int × Int, V0 i = .int .i64 q.1 ∧ V1 i = .int .i64 q.2 := fun i hi => by
      obtain ⟨_, _, hx0, hx1⟩ := hx i (by omega)
      obtain ⟨x, ex, _, _⟩ := DataW.trod_int Try.underlying3 hx0
      obtain ⟨y, ey, _, _⟩ := DataW.trod_int Try.underlying3 hx1
      simp only [List.cons.injEq, and_true] at ex ey
      exact ⟨(x, y), ex, ey⟩
    obtain ⟨q, hq⟩ := choose_lt each
    refine ⟨st, rest, some a, cap, (List.range len).map q, by simp, ⟨by simpa using hl, hm, fun h0 => ?_⟩, fun hw => ?_⟩
    · simp only [List.length_map, List.length_range] at h0
      obtain ⟨g, off, spot⟩ := a
      have hc0 := (hx 0 (by omega)).1
      have hspot : spot = none := by simpa [Addr.add] using World.cell?_spot hc0
      subst hspot
      refine ⟨g, off, rfl, ?_, fun i hi => ?_⟩
      · have := World.block_lt_of_cell? W _ hc0
        simpa [Addr.add] using this
      · simp only [List.length_map, List.length_range] at hi
        obtain ⟨c0, c1, _, _⟩ := hx i (by omega)
        have hqi := hq i hi
        rw [hqi.1] at c0
        rw [hqi.2] at c1
        have eg : ((List.range len).map q).getD i (0, 0) = q i := by simp [List.getD_eq_getElem?_getD, hi]
        constructor
        · show W.cell? ⟨g, off + i * 2, none⟩ = some (.int .i64 (((List.range len).map q).getD i (0, 0)).1)
          rw [eg, ← addr_add]; exact c0
        · show W.cell? ⟨g, off + i * 2 + 1, none⟩ = some (.int .i64 (((List.range len).map q).getD i (0, 0)).2)
          rw [eg, Nat.add_assoc, ← addr_add]; exact c1
    · have hmem : (len + (m - len)) * 16 ≤ reachBytes := by
        have := List.all_eq_true.1 hw ((len + (m - len)) * 16) (by simp [DataW.weights, DataW.weightsEach, Try.underlying24, Try.underlying22, bytes_cls])
        simpa using this
      simp only [reachBytes] at hmem
      simp only [List.length_map, List.length_range]
      omega
end Go.Proofs.Ytjikemhmnkckcab
/- A program among the arguments, opened. -/
namespace Go.Proofs.Ytjikemhmnkckcab
open Go.ChangeShapes Go.WideShapes Go.ChangeAt Go.RowKit Go.Joins Go.Deep

theorem bytes_ins : Try.prog.bytesOf 35 = 32 := by kernel_rfl
theorem cells_ins : Try.prog.cellsOf 35 = 4 := by kernel_rfl
theorem cells_prog : Try.prog.cellsOf 27 = 5 := by kernel_rfl
theorem cells_clss : Try.prog.cellsOf 22 = 1 := by kernel_rfl
theorem cells_inss : Try.prog.cellsOf 25 = 1 := by kernel_rfl
theorem cells_str : Try.prog.cellsOf 9 = 1 := by kernel_rfl
theorem take_one2 {l : List Value} {j : Nat} {v : Value} (h : (l.drop j).take 1 = [v]) : l[j]? = some v := by
  have := congrArg (fun x => x[0]?) h
  simpa [List.getElem?_take, List.getElem?_drop] using this
theorem add_add2 (a : Addr) (i j : Nat) : (a.add i).add j = a.add (i + j) := by
  unfold Addr.add; repeat' split
  all_goals simp_all [Nat.add_assoc]

set_option maxRecDepth 100000 in
theorem open_ins {H : Type} {enc : TypeId × Value → H} {W : World} {base : Nat} {sp : Nat → Bool} {held : Bool} {fuel : Nat} {cs : List Value} {x : DataW H × List MemPlace} (h : DataW.trod enc Try.prog W base sp held fuel 35 cs = some x) :
    ∃ u : Nat → Int, ∀ j, j < 4 → cs[j]? = some (.int .i64 (u j)) ∧ -9223372036854775808 ≤ u j ∧ u j ≤ 9223372036854775807 := by
  obtain ⟨xs, n, _, _, _, hlen, hf⟩ := DataW.trod_struct Try.underlying35 h
  have hl : xs.length = 4 := hlen
  have hx : ∀ j (hj : j < xs.length), xs[j]? = some xs[j] := fun j hj => List.getElem?_eq_getElem hj
  have fin : ∀ j y, DataW.trod enc Try.prog W base sp held n 3 ((cs.drop j).take 1) = some y → ∃ z : Int, cs[j]? = some (.int .i64 z) ∧ -9223372036854775808 ≤ z ∧ z ≤ 9223372036854775807 := by
    intro j y hy
    obtain ⟨z, ez, _, wz⟩ := DataW.trod_int Try.underlying3 hy
    have hb := bounds_i64 wz
    exact ⟨z, take_one2 ez, hb.1, hb.2⟩
  have key : ∀ j, j < 4 → ∃ z : Int, cs[j]? = some (.int .i64 z) ∧ -9223372036854775808 ≤ z ∧ z ≤ 9223372036854775807 := by
    intro j hj
    match j, hj with
    | 0, _ => exact fin 0 _ ((hf 0 _ rfl).trans (hx 0 (by omega)))
    | 1, _ => exact fin 1 _ ((hf 1 _ rfl).trans (hx 1 (by omega)))
    | 2, _ => exact fin 2 _ ((hf 2 _ rfl).trans (hx 2 (by omega)))
    | 3, _ => exact fin 3 _ ((hf 3 _ rfl).trans (hx 3 (by omega)))
  obtain ⟨u, hu⟩ := choose_lt key
  exact ⟨u, hu⟩

/-- All numbers of a program are in int. -/
def insBd (code : List Ins) : Prop := ∀ i, i < code.length → (-9223372036854775808 ≤ (code.getD i Ins.no).op ∧ (code.getD i Ins.no).op ≤ 9223372036854775807) ∧ (-9223372036854775808 ≤ (code.getD i Ins.no).a ∧ (code.getD i Ins.no).a ≤ 9223372036854775807) ∧
  (-9223372036854775808 ≤ (code.getD i Ins.no).b ∧ (code.getD i Ins.no).b ≤ 9223372036854775807) ∧ (-9223372036854775808 ≤ (code.getD i Ins.no).c ∧ (code.getD i Ins.no).c ≤ 9223372036854775807)

set_option maxRecDepth 100000 in
theorem open_code {H : Type} {enc : TypeId × Value → H} {W : World} {base : Nat} {sp : Nat → Bool} {held : Bool} {fuel : Nat} {v : Value} {x : DataW H × List MemPlace}
    (hf : DataW.trod enc Try.prog W base sp held fuel 25 [v] = some x) :
    ∃ (a : Option Addr) (cap : Nat) (code : List Ins), v = .slice a code.length cap ∧ IRow W a cap code ∧ insBd code ∧
      ((DataW.weights Try.prog 25 x.1).all (· ≤ reachBytes) = true → code.length * 32 ≤ 140737488351232) := by
  rcases open_slice Try.underlying25 hf with ⟨e2, ex⟩ | ⟨a, len, cap, m, n', D, Pl, e2, _, hl, hm, hmm, ex, hx⟩
  · simp only [List.cons.injEq, and_true] at e2
    subst e2
    exact ⟨none, 0, [], rfl, ⟨Nat.le_refl _, by simp [maxLen], fun h => absurd h (by simp)⟩, fun i hi => absurd hi (by simp), fun _ => by simp⟩
  · simp only [List.cons.injEq, and_true] at e2
    subst e2
    rw [cells_ins] at hx
    have hlm : len ≤ m := by rw [hmm]; split <;> omega
    have each : ∀ i, i < len → ∃ u : Nat → Int, ∀ j, j < 4 → W.cell? (a.add (i * 4 + j)) = some (.int .i64 (u j)) ∧ -9223372036854775808 ≤ u j ∧ u j ≤ 9223372036854775807 := fun i hi => by
      obtain ⟨cs', h1, h2⟩ := hx i (by omega)
      obtain ⟨u, hu⟩ := open_ins h2
      obtain ⟨_, _, hc⟩ := World.cells?_some h1
      refine ⟨u, fun j hj => ⟨?_, (hu j hj).2⟩⟩
      rw [← add_add2, hc j hj]
      exact (hu j hj).1
    obtain ⟨u, hu⟩ := choose_lt each
    have eg : ∀ i, i < len → ((List.range len).map fun i => (⟨u i 0, u i 1, u i 2, u i 3⟩ : Ins)).getD i Ins.no = ⟨u i 0, u i 1, u i 2, u i 3⟩ := fun i hi => by simp [List.getD_eq_getElem?_getD, hi]
    refine ⟨some a, cap, (List.range len).map fun i => ⟨u i 0, u i 1, u i 2, u i 3⟩, by simp, ⟨by simpa using hl, hm, fun h0 => ?_⟩, fun i hi => ?_, fun hw => ?_⟩
    · simp only [List.length_map, List.length_range] at h0
      obtain ⟨g, off, spot⟩ := a
      have hc0 := (hu 0 (by omega) 0 (by omega)).1
      have hspot : spot = none := by simpa [Addr.add] using World.cell?_spot hc0
      subst hspot
      refine ⟨g, off, rfl, ?_, fun i hi => ?_⟩
      · have := World.block_lt_of_cell? W _ hc0
        simpa [Addr.add] using this
      · simp only [List.length_map, List.length_range] at hi
        rw [eg i hi]
        have h4 := fun j hj => (hu i hi j hj).1
        refine ⟨?_, ?_, ?_, ?_⟩
        · have := h4 0 (by omega); rw [addr_add] at this; exact this
        · have := h4 1 (by omega); rw [addr_add, ← Nat.add_assoc] at this; exact this
        · have := h4 2 (by omega); rw [addr_add, ← Nat.add_assoc] at this; exact this
        · have := h4 3 (by omega); rw [addr_add, ← Nat.add_assoc] at this; exact this
    · simp only [List.length_map, List.length_range] at hi
      rw [eg i hi]
      exact ⟨(hu i hi 0 (by omega)).2, (hu i hi 1 (by omega)).2, (hu i hi 2 (by omega)).2, (hu i hi 3 (by omega)).2⟩
    · subst ex
      have hmem : (len + (m - len)) * 32 ≤ reachBytes := by
        have := List.all_eq_true.1 hw ((len + (m - len)) * 32) (by simp [DataW.weights, Try.underlying25, bytes_ins])
        simpa using this
      simp only [reachBytes] at hmem
      simp only [List.length_map, List.length_range]
      omega

set_option maxRecDepth 100000 in
theorem open_conf3 {H : Type} {enc : TypeId × Value → H} {W : World} {base : Nat} {sp : Nat → Bool} {held : Bool} {fuel : Nat} {v0 v1 v2 : Value} {x : DataW H × List MemPlace}
    (hf : DataW.trod enc Try.prog W base sp held fuel 24 [v0, v1, v2] = some x) :
    ∃ (st rest : Int) (a : Option Addr) (cap : Nat) (cls : List (Int × Int)), v0 = .int .i64 st ∧ v1 = .int .i64 rest ∧ v2 = .slice a cls.length cap ∧ CRow W a cap cls ∧
      (-9223372036854775808 ≤ st ∧ st ≤ 9223372036854775807) ∧ (-9223372036854775808 ≤ rest ∧ rest ≤ 9223372036854775807) ∧
      ((DataW.weights Try.prog 24 x.1).all (· ≤ reachBytes) = true → cls.length * 16 ≤ 140737488351232) := by
  obtain ⟨y0, y1, y2, n, hx0, _, h0, h1, h2⟩ := trod_struct3 Try.underlying24 hf
  subst hx0
  obtain ⟨st, e0, rfl, w0⟩ := DataW.trod_int Try.underlying3 h0
  obtain ⟨rest, e1, rfl, w1⟩ := DataW.trod_int Try.underlying3 h1
  simp [cells_int] at e0 e1
  subst e0 e1
  rcases open_slice_pairs Try.underlying22 Try.underlying37 cells_cls rfl rfl cells_int cells_int h2 with ⟨e2, rfl⟩ | ⟨a, len, cap, m, n', V0, V1, D0, D1, P0, P1, e2, _, hl, hm, hmm, rfl, hx⟩
  · simp [cells_clss] at e2
    subst e2
    exact ⟨st, rest, none, 0, [], rfl, rfl, rfl, ⟨Nat.le_refl _, by simp [maxLen], fun h => absurd h (by simp)⟩, bounds_i64 w0, bounds_i64 w1, fun _ => by simp⟩
  · simp [cells_clss] at e2
    subst e2
    have hlm : len ≤ m := by rw [hmm]; split <;> omega
    have each : ∀ i, i < len → ∃ q : Int × Int, V0 i = .int .i64 q.1 ∧ V1 i = .int .i64 q.2 := fun i hi => by
      obtain ⟨_, _, hx0, hx1⟩ := hx i (by omega)
      obtain ⟨x, ex, _, _⟩ := DataW.trod_int Try.underlying3 hx0
      obtain ⟨y, ey, _, _⟩ := DataW.trod_int Try.underlying3 hx1
      simp only [List.cons.injEq, and_true] at ex ey
      exact ⟨(x, y), ex, ey⟩
    obtain ⟨q, hq⟩ := choose_lt each
    refine ⟨st, rest, some a, cap, (List.range len).map q, rfl, rfl, by simp, ⟨by simpa using hl, hm, fun h0 => ?_⟩, bounds_i64 w0, bounds_i64 w1, fun hw => ?_⟩
    · simp only [List.length_map, List.length_range] at h0
      obtain ⟨g, off, spot⟩ := a
      have hc0 := (hx 0 (by omega)).1
      have hspot : spot = none := by simpa [Addr.add] using World.cell?_spot hc0
      subst hspot
      refine ⟨g, off, rfl, ?_, fun i hi => ?_⟩
      · have := World.block_lt_of_cell? W _ hc0
        simpa [Addr.add] using this
      · simp only [List.length_map, List.length_range] at hi
        obtain ⟨c0, c1, _, _⟩ := hx i (by omega)
        have hqi := hq i hi
        rw [hqi.1] at c0
        rw [hqi.2] at c1
        have eg : ((List.range len).map q).getD i (0, 0) = q i := by simp [List.getD_eq_getElem?_getD, hi]
        constructor
        · show W.cell? ⟨g, off + i * 2, none⟩ = some (.int .i64 (((List.range len).map q).getD i (0, 0)).1)
          rw [eg, ← addr_add]; exact c0
        · show W.cell? ⟨g, off + i * 2 + 1, none⟩ = some (.int .i64 (((List.range len).map q).getD i (0, 0)).2)
          rw [eg, Nat.add_assoc, ← addr_add]; exact c1
    · have hmem : (len + (m - len)) * 16 ≤ reachBytes := by
        have := List.all_eq_true.1 hw ((len + (m - len)) * 16) (by simp [DataW.weights, DataW.weightsEach, Try.underlying24, Try.underlying22, bytes_cls])
        simpa using this
      simp only [reachBytes] at hmem
      simp only [List.length_map, List.length_range]
      omega

set_option maxRecDepth 100000 in
theorem open_program {H : Type} {enc : TypeId × Value → H} {W : World} {base b0 : Nat} {sp : Nat → Bool} {held : Bool} {v : Value} {d : DataW H} {p : List MemPlace}
    (hv : Value.okWide Try.prog W .any b0 27 v) (h : DataW.Trod enc Try.prog W base sp held 27 v d p) :
    ∃ (st rest : Int) (a : Option Addr) (cap : Nat) (cls : List (Int × Int)) (dt : ByteArray) (ia : Option Addr) (icap : Nat) (code : List Ins), v = .agg #[.int .i64 st, .int .i64 rest, .slice a cls.length cap, .string dt, .slice ia code.length icap] ∧ CRow W a cap cls ∧ IRow W ia icap code ∧ insBd code ∧ dt.size ≤ maxLen ∧
      (-9223372036854775808 ≤ st ∧ st ≤ 9223372036854775807) ∧ (-9223372036854775808 ≤ rest ∧ rest ≤ 9223372036854775807) ∧
      ((DataW.weights Try.prog 27 d).all (· ≤ reachBytes) = true → cls.length * 16 ≤ 140737488351232 ∧ code.length * 32 ≤ 140737488351232) := by
  obtain ⟨cs, rfl, hsz⟩ := okWide_struct Try.underlying27 hv
  rw [cells_prog] at hsz
  obtain ⟨c0, c1, c2, c3, c4, rfl⟩ : ∃ c0 c1 c2 c3 c4, cs = #[c0, c1, c2, c3, c4] := by
    obtain ⟨l⟩ := cs
    match l, hsz with
    | [c0, c1, c2, c3, c4], _ => exact ⟨c0, c1, c2, c3, c4, rfl⟩
  obtain ⟨fuel, hf⟩ := h
  obtain ⟨y0, y1, y2, n, hx, _, h0, h1, h2⟩ := trod_struct3 Try.underlying27 hf
  simp only [Prod.mk.injEq] at hx
  obtain ⟨rfl, rfl⟩ := hx
  obtain ⟨st, rest, a, cap, cls, rfl, rfl, rfl, hcr, b0, b1, hw0⟩ := open_conf3 (v0 := c0) (v1 := c1) (v2 := c2) (by simpa [Value.cells, cells_conf] using h0)
  obtain ⟨dt, e3, -, hds⟩ := DataW.trod_string Try.underlying9 h1
  obtain ⟨ia, icap, code, rfl, hir, hbd, hw2⟩ := open_code (v := c4) (by simpa [Value.cells, cells_inss] using h2)
  simp [Value.cells, cells_str] at e3
  subst e3
  refine ⟨st, rest, a, cap, cls, dt, ia, icap, code, rfl, hcr, hir, hbd, hds, b0, b1, fun hw => ?_⟩
  simp only [DataW.weights, Try.underlying27, List.map_cons, List.map_nil, DataW.weightsEach, List.append_nil, List.all_append, Bool.and_eq_true] at hw
  exact ⟨hw0 hw.1, hw2 hw.2.2⟩
end Go.Proofs.Ytjikemhmnkckcab
/- The draws among the arguments, opened. -/
namespace Go.Proofs.Ytjikemhmnkckcab
open Go.ChangeShapes Go.WideShapes Go.ChangeAt Go.RowKit Go.Joins Go.Deep

theorem cells_int2 : Try.prog.cellsOf 3 = 1 := by kernel_rfl
theorem bytes_int2 : Try.prog.bytesOf 3 = 8 := by kernel_rfl
set_option maxRecDepth 100000 in
theorem open_draws {H : Type} {enc : TypeId × Value → H} {W : World} {base : Nat} {sp : Nat → Bool} {held : Bool} {fuel : Nat} {v : Value} {x : DataW H × List MemPlace}
    (hf : DataW.trod enc Try.prog W base sp held fuel 53 [v] = some x) :
    ∃ (a : Option Addr) (cap : Nat) (ds : List Int), v = .slice a ds.length cap ∧ DRow W a cap ds ∧ ((DataW.weights Try.prog 53 x.1).all (· ≤ reachBytes) = true → ds.length * 8 ≤ 140737488351232) := by
  rcases Go.ChangeShapes.open_ints Try.underlying53 Try.underlying3 cells_int2 hf with ⟨e2, ex⟩ | ⟨a, len, cap, zs, e2, _, hl, hm, hz, ex, hc, _⟩
  · simp only [List.cons.injEq, and_true] at e2
    subst e2
    exact ⟨none, 0, [], rfl, ⟨Nat.le_refl _, by simp [maxLen], fun h => absurd h (by simp)⟩, fun _ => by simp⟩
  · simp only [List.cons.injEq, and_true] at e2
    subst e2
    have hlz : len ≤ zs.length := by rw [hz]; split <;> omega
    have hlt : (zs.take len).length = len := by rw [List.length_take]; omega
    refine ⟨some a, cap, zs.take len, by rw [hlt], ⟨by rw [hlt]; exact hl, hm, fun h0 => ?_⟩, fun hw => ?_⟩
    · rw [hlt] at h0
      obtain ⟨g, off, spot⟩ := a
      have hc0 := hc 0 (by omega)
      have hspot : spot = none := by simpa [Addr.add] using World.cell?_spot hc0
      subst hspot
      refine ⟨g, off, rfl, ?_, fun i hi => ?_⟩
      · have := World.block_lt_of_cell? W _ hc0
        simpa [Addr.add] using this
      · rw [hlt] at hi
        have := hc i (by omega)
        rw [addr_add] at this
        rw [this]
        congr 2
        rw [List.getD_eq_getElem?_getD, List.getD_eq_getElem?_getD, List.getElem?_take, if_pos hi]
    · subst ex
      have hmem : zs.length * 8 ≤ reachBytes := by
        have hd : (lits (H := H) .i64 (zs.take len)).length + (lits (H := H) .i64 (zs.drop len)).length = zs.length := by simp [lits]; omega
        have := List.all_eq_true.1 hw (((lits (H := H) .i64 (zs.take len)).length + (lits (H := H) .i64 (zs.drop len)).length) * 8) (by simp [DataW.weights, Try.underlying53, bytes_int2])
        rw [hd] at this
        simpa using this
      simp only [reachBytes] at hmem
      rw [hlt]
      omega
set_option maxRecDepth 100000 in
theorem open_draws2 {H : Type} {enc : TypeId × Value → H} {W : World} {base b0 : Nat} {sp : Nat → Bool} {held : Bool} {v : Value} {d : DataW H} {p : List MemPlace}
    (hv : Value.okWide Try.prog W .any b0 53 v) (h : DataW.Trod enc Try.prog W base sp held 53 v d p) :
    ∃ (a : Option Addr) (cap : Nat) (ds : List Int), v = .slice a ds.length cap ∧ DRow W a cap ds ∧ ((DataW.weights Try.prog 53 d).all (· ≤ reachBytes) = true → ds.length * 8 ≤ 140737488351232) := by
  obtain ⟨a0, len0, cap0, rfl⟩ := okWide_slice Try.underlying53 hv
  obtain ⟨fuel, hf⟩ := h
  exact open_draws hf
end Go.Proofs.Ytjikemhmnkckcab
