import Derived.Test.YtjikemhmnkckcabImgWrite3
import Derived.Deep.AppendLies
import Derived.Lib.SmallJoins
/- A row of bytes that grows: the first append onto a constant's bytes makes a new row. -/
namespace Go.Proofs.Ytjikemhmnkckcab
open Go.RowKit

theorem run_append_new {P : Program} {m : Nat} (w : World) (base : Nat) (t ty e : TypeId) (i : TypeInfo) (z : Value) (size bytes : Nat) (ht : P.underlying t = some (.slice e)) (hi : P.info? e = some i) (hz : i.zero = some z)
    (hsize : i.size = size) (hby : i.bytes = bytes) (hzs : z.cells.size = size) (hsz : 0 < size)
    (ad0 : Addr) (n cap : Nat) (xs : List Value) (hx0 : xs.length = n * size) (holds : ∀ j u, xs[j]? = some u → w.cell? (ad0.add j) = some u) (hno : cap < n + m)
    (a : Addr) (c : Nat) (news : List Value) (hl : news.length = m * size) (hnews : ∀ j u, news[j]? = some u → w.cell? (a.add j) = some u)
    (h63 : n + m ≤ maxLen) (hbytes : (n + m) * bytes ≤ 140737488355328) (hbase : base ≤ w.heap.size) :
    ∃ cap' w', (Builtin.append_ #[t, t] ty #[.slice (some ad0) n cap, .slice (some a) m c]).run P w = .ok (.slice (some ⟨w.heap.size, 0, none⟩) (n + m) cap') w' ∧ w'.ownsRow base e size (.slice (some ⟨w.heap.size, 0, none⟩) (n + m) cap') (n + m) (xs ++ news) ∧ w.grownBy w' none ∧ w.heap.size < w'.heap.size := by
  subst hsize
  subst hby
  have hsmall : n + m ≤ 9223372036854775807 := by simp only [maxLen] at h63; omega
  have hlen : (xs ++ news).length = (n + m) * i.size := by rw [List.length_append, hx0, hl, Nat.add_mul]
  have hr := run_append_grow (P := P) w t ty e i z ht hi hz ad0 n cap xs hx0 holds a m c news hl hnews (by omega) (by omega) (growslice_fits (by omega) hbytes)
  have hge := grownCap_ge w (n + m) cap e
  have hcm2 : grownCap w (n + m) cap e ≤ maxLen := grownCap_le_maxLen w (n + m) cap e h63
  refine ⟨_, _, hr, ⟨hlen, .inr ⟨w.heap.size, _, _, rfl, hbase, heap_alloc_new w.drew _, hge, hcm2, ?_, ?_⟩⟩, ⟨rfl, rfl, rfl, by simp, fun k hk _ => Below.heap_alloc w.drew _ k hk⟩, by simp⟩
  · simp only [Array.size_append, List.size_toArray, size_zeroCells, hzs, hx0, hl, ← Nat.add_mul]
    congr 1
    omega
  · simp only [Array.toList_append, List.append_assoc]
    rw [← List.append_assoc, ← hlen]
    exact List.take_left

theorem wpList_append_new {P : Program} (w : World) {ops : Array Oper} {rest : List Oper} {o : Oper} {a : Act} {Q : Exit → Act → World → Prop} (hgd : o.guard = none) (s x : Operand) (t : TypeId)
    (ho : o.op = .call { callee := .builtin .append, args := #[s, x], argTypes := #[t, t] })
    (base : Nat) (e : TypeId) (i : TypeInfo) (z : Value) (size bytes : Nat) (ht : P.underlying t = some (.slice e)) (hi : P.info? e = some i) (hz : i.zero = some z)
    (hsize : i.size = size) (hby : i.bytes = bytes) (hzs : z.cells.size = size) (hsz : 0 < size)
    (ad0 : Addr) (n cap : Nat) (xs : List Value) (hs : a.eval s = .slice (some ad0) n cap) (hx0 : xs.length = n * size) (holds : ∀ j u, xs[j]? = some u → w.cell? (ad0.add j) = some u)
    (ad : Addr) (m c : Nat) (news : List Value) (hx : a.eval x = .slice (some ad) m c) (hno : cap < n + m) (hl : news.length = m * size) (hnews : ∀ j u, news[j]? = some u → w.cell? (ad.add j) = some u)
    (h63 : n + m ≤ maxLen) (hbytes : (n + m) * bytes ≤ 140737488355328) (hbase : base ≤ w.heap.size) (H : Nat) (hH : w.heap.size = H)
    (h : ∀ cap' w', w'.ownsRow base e size (.slice (some ⟨H, 0, none⟩) (n + m) cap') (n + m) (xs ++ news) → w.grownBy w' none → H < w'.heap.size → wpList P ops Q rest (a.put o.dst (.slice (some ⟨H, 0, none⟩) (n + m) cap')) w') : wpList P ops Q (o :: rest) a w := by
  subst hH
  refine wpList_plain hgd fun _ hK => ?_
  obtain ⟨cap', w', hr, h2, h3, h4⟩ := run_append_new (P := P) (m := m) w base t o.type e i z size bytes ht hi hz hsize hby hzs hsz ad0 n cap xs hx0 holds hno ad c news hl hnews h63 hbytes hbase
  unfold Oper.wp execOp
  simp only [ho, resolve, invoke, builtin, Sem.run_bind, Sem.run_pure, Result.andThen_ok, List.map_toArray, List.map_cons, List.map_nil, hs, hx, hr]
  exact hK _ _ (h cap' w' h2 h3 h4)

/-- The cells of a row of bytes. -/
def bytesV (b : ByteArray) : List Value := b.data.toList.map fun x => .int .u8 (x.toNat : Int)
theorem bytesV_length (b : ByteArray) : (bytesV b).length = b.size := by simp [bytesV]
theorem bytesV_append (b c : ByteArray) : bytesV (b ++ c) = bytesV b ++ bytesV c := by
  simp [bytesV, ByteArray.data_append]
theorem bytesV_one {v : Int} (v0 : 0 ≤ v) (v1 : v ≤ 255) : bytesV (bOne v) = [.int .u8 v] := by
  have hx : (((UInt8.ofNat v.toNat).toNat : Nat) : Int) = v := by rw [UInt8.toNat_ofNat']; omega
  simp [bytesV, bOne]
  omega
theorem bytesV_get (b : ByteArray) (j : Nat) (h : j < b.size) : (bytesV b)[j]? = some (.int .u8 (b[j].toNat : Int)) := by
  have : j < b.data.toList.length := by simpa using h
  simp [bytesV, List.getElem?_map, List.getElem?_eq_getElem this]
  rfl
/-- A row of bytes becomes a text. -/
theorem row_bytes {w : World} {base e : Nat} {g cap : Nat} {b : ByteArray} (h : w.ownsRow base e 1 (.slice (some ⟨g, 0, none⟩) b.size cap) b.size (bytesV b)) : Go.Lib.Bytes w g 0 b := by
  intro i hi
  have := h.cells (g := g) rfl i _ (bytesV_get b i hi)
  have hadd : (⟨g, 0, none⟩ : Addr).add i = ⟨g, 0 + i, none⟩ := by unfold Addr.add; split <;> simp_all
  rw [hadd] at this
  exact this
end Go.Proofs.Ytjikemhmnkckcab
