import Derived.Test.YtjikemhmnkckcaaHanded
/- How the program's heap (granule.Heap) lies in memory. -/
namespace Go.Proofs.Ytjikemhmnkckcaa
open Go.RowKit

structure GSlot where
  state : Int
  tag : Int
  bytes : Int
  rest : Int
  alloc : Int
  gone : Int
def GSlot.no : GSlot := ⟨0, 0, 0, 0, 0, 0⟩
def GSlot.virgin : GSlot := ⟨2, 0, 0, 0, 0, 0⟩
def slotCells (x : GSlot) : List Value := [.int .i64 x.state, .int .i64 x.tag, .int .i64 x.bytes, .int .i64 x.rest, .int .i64 x.alloc, .int .i64 x.gone]

structure GCls where
  begin_ : Int
  bytes : Int
  slots : List GSlot
  sb : Nat
def GCls.no : GCls := ⟨0, 0, [], 0⟩
def gclsCells (c : GCls) : List Value := [.int .i64 c.begin_, .int .i64 c.bytes, .slice (some ⟨c.sb, 0, none⟩) c.slots.length c.slots.length]

structure GSt where
  st : Int
  rest : Int
  cs : List GCls
  mem : List Int

structure GRep (w : World) (p : Nat) (vc : Value) (bb : Nat) (G : GSt) : Prop where
  blk : Blk w p 86 [.int .i64 G.st, .int .i64 G.rest, vc, .slice (some ⟨bb, 0, none⟩) G.mem.length G.mem.length]
  cls : w.ownsRow 0 82 3 vc G.cs.length (G.cs.flatMap gclsCells)
  slots : ∀ k, k < G.cs.length → Blk w (G.cs.getD k GCls.no).sb 79 ((G.cs.getD k GCls.no).slots.flatMap slotCells)
  mem : Blk w bb 5 (G.mem.map (Value.int .u8))
  apC : vc.ownBlock ≠ some p
  apB : bb ≠ p
  apCB : vc.ownBlock ≠ some bb
  apS : ∀ k, k < G.cs.length → (G.cs.getD k GCls.no).sb ≠ p ∧ (G.cs.getD k GCls.no).sb ≠ bb ∧ vc.ownBlock ≠ some (G.cs.getD k GCls.no).sb
  apSS : ∀ j k, j < G.cs.length → k < G.cs.length → j ≠ k → (G.cs.getD j GCls.no).sb ≠ (G.cs.getD k GCls.no).sb

/-- which blocks are the heap's own -/
def GFoot (p : Nat) (vc : Value) (bb : Nat) (G : GSt) (b : Nat) : Prop := b = p ∨ vc.ownBlock = some b ∨ b = bb ∨ ∃ k, k < G.cs.length ∧ b = (G.cs.getD k GCls.no).sb

theorem GRep.foot_lt {w : World} {p : Nat} {vc : Value} {bb : Nat} {G : GSt} (h : GRep w p vc bb G) {b : Nat} (hb : GFoot p vc bb G b) : b < w.heap.size := by
  rcases hb with rfl | hb | rfl | ⟨k, hk, rfl⟩
  · exact h.blk.lt
  · exact row_lt h.cls hb
  · exact h.mem.lt
  · exact (h.slots k hk).lt

/-- where its blocks are kept the heap is as it was -/
theorem GRep.kept {w w' : World} {p : Nat} {vc : Value} {bb : Nat} {G : GSt} (h : GRep w p vc bb G) (hk : ∀ b, GFoot p vc bb G b → w'.heap[b]? = w.heap[b]?) : GRep w' p vc bb G :=
  ⟨(hk p (.inl rfl)).trans h.blk, row_kept h.cls (fun g hg => hk g (.inr (.inl hg))), fun k hk' => (hk _ (.inr (.inr (.inr ⟨k, hk', rfl⟩)))).trans (h.slots k hk'), (hk bb (.inr (.inr (.inl rfl)))).trans h.mem, h.apC, h.apB, h.apCB, h.apS, h.apSS⟩
theorem GRep.below {w w' : World} {p : Nat} {vc : Value} {bb : Nat} {G : GSt} (h : GRep w p vc bb G) (hb : Below w.heap.size w w') : GRep w' p vc bb G :=
  h.kept fun b hf => hb.block b (h.foot_lt hf)

theorem flat_set {α : Type} (enc : α → List Value) (m : Nat) (hm : ∀ x, (enc x).length = m) (xs : List α) (d : α) (i j : Nat) (hi : i < xs.length) (hj : j < m) (x' : α) (v : Value) (h : enc x' = (enc (xs.getD i d)).set j v) :
    (xs.flatMap enc).set (i * m + j) v = (xs.set i x').flatMap enc := by
  induction xs generalizing i with
  | nil => simp at hi
  | cons x xs ih =>
    cases i with
    | zero =>
      simp only [Nat.zero_mul, Nat.zero_add, List.flatMap_cons, List.set_cons_zero]
      rw [List.set_append_left _ _ (by rw [hm]; exact hj)]
      simp only [List.getD_cons_zero] at h
      rw [h]
    | succ i =>
      simp only [List.flatMap_cons, List.set_cons_succ]
      rw [List.set_append_right _ _ (by rw [hm, Nat.succ_mul]; omega), hm, show (i + 1) * m + j - m = i * m + j by rw [Nat.succ_mul]; omega]
      rw [ih i (by simpa using hi) (by simpa using h)]

/-- a slot's cells, one by one -/
theorem slot_cells {w : World} {b : Nat} {xs : List GSlot} (h : Blk w b 79 (xs.flatMap slotCells)) (i : Nat) (hi : i < xs.length) :
    w.cell? ⟨b, i * 6, none⟩ = some (.int .i64 (xs.getD i GSlot.no).state) ∧ w.cell? ⟨b, i * 6 + 1, none⟩ = some (.int .i64 (xs.getD i GSlot.no).tag) ∧ w.cell? ⟨b, i * 6 + 2, none⟩ = some (.int .i64 (xs.getD i GSlot.no).bytes) ∧
    w.cell? ⟨b, i * 6 + 3, none⟩ = some (.int .i64 (xs.getD i GSlot.no).rest) ∧ w.cell? ⟨b, i * 6 + 4, none⟩ = some (.int .i64 (xs.getD i GSlot.no).alloc) ∧ w.cell? ⟨b, i * 6 + 5, none⟩ = some (.int .i64 (xs.getD i GSlot.no).gone) := by
  have h6 : ∀ j, j < 6 → (xs.flatMap slotCells)[i * 6 + j]? = (slotCells (xs.getD i GSlot.no))[j]? := fun j hj => by
    rw [flat_get slotCells 6 (fun _ => rfl) xs i j hj, List.getElem?_eq_getElem hi]
    simp [List.getD_eq_getElem?_getD, List.getElem?_eq_getElem hi]
  have hx := fun j (hj : j < 6) u hu => h.cell (j := i * 6 + j) (v := u) (by rw [h6 j hj]; exact hu)
  exact ⟨hx 0 (by omega) _ rfl, hx 1 (by omega) _ rfl, hx 2 (by omega) _ rfl, hx 3 (by omega) _ rfl, hx 4 (by omega) _ rfl, hx 5 (by omega) _ rfl⟩

/-- a class's cells -/
theorem gcls_cells {w : World} {g : Nat} {cs : List GCls} (hc : ∀ j u, (cs.flatMap gclsCells)[j]? = some u → w.cell? ⟨g, j, none⟩ = some u) (i : Nat) (hi : i < cs.length) :
    w.cell? ⟨g, i * 3, none⟩ = some (.int .i64 (cs.getD i GCls.no).begin_) ∧ w.cell? ⟨g, i * 3 + 1, none⟩ = some (.int .i64 (cs.getD i GCls.no).bytes) ∧ w.cell? ⟨g, i * 3 + 2, none⟩ = some (.slice (some ⟨(cs.getD i GCls.no).sb, 0, none⟩) (cs.getD i GCls.no).slots.length (cs.getD i GCls.no).slots.length) := by
  have h6 : ∀ j, j < 3 → (cs.flatMap gclsCells)[i * 3 + j]? = (gclsCells (cs.getD i GCls.no))[j]? := fun j hj => by
    rw [flat_get gclsCells 3 (fun _ => rfl) cs i j hj, List.getElem?_eq_getElem hi]
    simp [List.getD_eq_getElem?_getD, List.getElem?_eq_getElem hi]
  have hx := fun j (hj : j < 3) u hu => hc (i * 3 + j) u (by rw [h6 j hj]; exact hu)
  exact ⟨hx 0 (by omega) _ rfl, hx 1 (by omega) _ rfl, hx 2 (by omega) _ rfl⟩
end Go.Proofs.Ytjikemhmnkckcaa
