import Derived.Test.YtjikemhmnkckcaaJ6
import Derived.Test.YtjikemhmnkckcaaJ5
/- How the program's heap (granule.Heap) lies in memory. -/
namespace Go.Proofs.Ytjikemhmnkckcaa
open Go.RowKit

structure GSlot where
  state : Int
  tag : Int
  bytes : Int
  rest : Int
  alloc : Int
  gone : Int
def GSlot.no : GSlot := ⟨0, 0, 0, 0, 0, 0⟩
def GSlot.virgin : GSlot := ⟨2, 0, 0, 0, 0, 0⟩
def slotCells (x : GSlot) : List Value := [.int .i64 x.state, .int .i64 x.tag, .int .i64 x.bytes, .int .i64 x.rest, .int .i64 x.alloc, .int .i64 x.gone]

structure GCls where
  begin_ : Int
  bytes : Int
  slots : List GSlot
  sb : Nat
def GCls.no : GCls := ⟨0, 0, [], 0⟩
def gclsCells (c : GCls) : List Value := [.int .i64 c.begin_, .int .i64 c.bytes, .slice (some ⟨c.sb, 0, none⟩) c.slots.length c.slots.length]

structure GSt where
  st : Int
  rest : Int
  cs : List GCls
  mem : List Int

structure GRep (w : World) (p : Nat) (vc : Value) (bb : Nat) (G : GSt) : Prop where
  blk : Blk w p 86 [.int .i64 G.st, .int .i64 G.rest, vc, .slice (some ⟨bb, 0, none⟩) G.mem.length G.mem.length]
  cls : w.ownsRow 0 82 3 vc G.cs.length (G.cs.flatMap gclsCells)
  slots : ∀ k, k < G.cs.length → Blk w (G.cs.getD k GCls.no).sb 79 ((G.cs.getD k GCls.no).slots.flatMap slotCells)
  mem : Blk w bb 5 (G.mem.map (Value.int .u8))
  apC : vc.ownBlock ≠ some p
  apB : bb ≠ p
  apCB : vc.ownBlock ≠ some bb
  apS : ∀ k, k < G.cs.length → (G.cs.getD k GCls.no).sb ≠ p ∧ (G.cs.getD k GCls.no).sb ≠ bb ∧ vc.ownBlock ≠ some (G.cs.getD k GCls.no).sb
  apSS : ∀ j k, j < G.cs.length → k < G.cs.length → j ≠ k → (G.cs.getD j GCls.no).sb ≠ (G.cs.getD k GCls.no).sb

/-- which blocks are the heap's own -/
def GFoot (p : Nat) (vc : Value) (bb : Nat) (G : GSt) (b : Nat) : Prop := b = p ∨ vc.ownBlock = some b ∨ b = bb ∨ ∃ k, k < G.cs.length ∧ b = (G.cs.getD k GCls.no).sb

theorem GRep.foot_lt {w : World} {p : Nat} {vc : Value} {bb : Nat} {G : GSt} (h : GRep w p vc bb G) {b : Nat} (hb : GFoot p vc bb G b) : b < w.heap.size := by
  rcases hb with rfl | hb | rfl | ⟨k, hk, rfl⟩
  · exact h.blk.lt
  · exact row_lt h.cls hb
  · exact h.mem.lt
  · exact (h.slots k hk).lt

/-- where its blocks are kept the heap is as it was -/
theorem GRep.kept {w w' : World} {p : Nat} {vc : Value} {bb : Nat} {G : GSt} (h : GRep w p vc bb G) (hk : ∀ b, GFoot p vc bb G b → w'.heap[b]? = w.heap[b]?) : GRep w' p vc bb G :=
  ⟨(hk p (.inl rfl)).trans h.blk, row_kept h.cls (fun g hg => hk g (.inr (.inl hg))), fun k hk' => (hk _ (.inr (.inr (.inr ⟨k, hk', rfl⟩)))).trans (h.slots k hk'), (hk bb (.inr (.inr (.inl rfl)))).trans h.mem, h.apC, h.apB, h.apCB, h.apS, h.apSS⟩
theorem GRep.below {w w' : World} {p : Nat} {vc : Value} {bb : Nat} {G : GSt} (h : GRep w p vc bb G) (hb : Below w.heap.size w w') : GRep w' p vc bb G :=
  h.kept fun b hf => hb.block b (h.foot_lt hf)

theorem flat_set {α : Type} (enc : α → List Value) (m : Nat) (hm : ∀ x, (enc x).length = m) (xs : List α) (d : α) (i j : Nat) (hi : i < xs.length) (hj : j < m) (x' : α) (v : Value) (h : enc x' = (enc (xs.getD i d)).set j v) :
    (xs.flatMap enc).set (i * m + j) v = (xs.set i x').flatMap enc := by
  induction xs generalizing i with
  | nil => simp at hi
  | cons x xs ih =>
    cases i with
    | zero =>
      simp only [Nat.zero_mul, Nat.zero_add, List.flatMap_cons, List.set_cons_zero]
      rw [List.set_append_left _ _ (by rw [hm]; exact hj)]
      simp only [List.getD_cons_zero] at h
      rw [h]
    | succ i =>
      simp only [List.flatMap_cons, List.set_cons_succ]
      rw [List.set_append_right _ _ (by rw [hm, Nat.succ_mul]; omega), hm, show (i + 1) * m + j - m = i * m + j by rw [Nat.succ_mul]; omega]
      rw [ih i (by simpa using hi) (by simpa using h)]

/-- a slot's cells, one by one -/
theorem slot_cells {w : World} {b : Nat} {xs : List GSlot} (h : Blk w b 79 (xs.flatMap slotCells)) (i : Nat) (hi : i < xs.length) :
    w.cell? ⟨b, i * 6, none⟩ = some (.int .i64 (xs.getD i GSlot.no).state) ∧ w.cell? ⟨b, i * 6 + 1, none⟩ = some (.int .i64 (xs.getD i GSlot.no).tag) ∧ w.cell? ⟨b, i * 6 + 2, none⟩ = some (.int .i64 (xs.getD i GSlot.no).bytes) ∧
    w.cell? ⟨b, i * 6 + 3, none⟩ = some (.int .i64 (xs.getD i GSlot.no).rest) ∧ w.cell? ⟨b, i * 6 + 4, none⟩ = some (.int .i64 (xs.getD i GSlot.no).alloc) ∧ w.cell? ⟨b, i * 6 + 5, none⟩ = some (.int .i64 (xs.getD i GSlot.no).gone) := by
  have h6 : ∀ j, j < 6 → (xs.flatMap slotCells)[i * 6 + j]? = (slotCells (xs.getD i GSlot.no))[j]? := fun j hj => by
    rw [flat_get slotCells 6 (fun _ => rfl) xs i j hj, List.getElem?_eq_getElem hi]
    simp [List.getD_eq_getElem?_getD, List.getElem?_eq_getElem hi]
  have hx := fun j (hj : j < 6) u hu => h.cell (j := i * 6 + j) (v := u) (by rw [h6 j hj]; exact hu)
  exact ⟨hx 0 (by omega) _ rfl, hx 1 (by omega) _ rfl, hx 2 (by omega) _ rfl, hx 3 (by omega) _ rfl, hx 4 (by omega) _ rfl, hx 5 (by omega) _ rfl⟩

/-- a class's cells -/
theorem gcls_cells {w : World} {g : Nat} {cs : List GCls} (hc : ∀ j u, (cs.flatMap gclsCells)[j]? = some u → w.cell? ⟨g, j, none⟩ = some u) (i : Nat) (hi : i < cs.length) :
    w.cell? ⟨g, i * 3, none⟩ = some (.int .i64 (cs.getD i GCls.no).begin_) ∧ w.cell? ⟨g, i * 3 + 1, none⟩ = some (.int .i64 (cs.getD i GCls.no).bytes) ∧ w.cell? ⟨g, i * 3 + 2, none⟩ = some (.slice (some ⟨(cs.getD i GCls.no).sb, 0, none⟩) (cs.getD i GCls.no).slots.length (cs.getD i GCls.no).slots.length) := by
  have h6 : ∀ j, j < 3 → (cs.flatMap gclsCells)[i * 3 + j]? = (gclsCells (cs.getD i GCls.no))[j]? := fun j hj => by
    rw [flat_get gclsCells 3 (fun _ => rfl) cs i j hj, List.getElem?_eq_getElem hi]
    simp [List.getD_eq_getElem?_getD, List.getElem?_eq_getElem hi]
  have hx := fun j (hj : j < 3) u hu => hc (i * 3 + j) u (by rw [h6 j hj]; exact hu)
  exact ⟨hx 0 (by omega) _ rfl, hx 1 (by omega) _ rfl, hx 2 (by omega) _ rfl⟩
end Go.Proofs.Ytjikemhmnkckcaa
/- The program's way to find a slot, held against the document's. Plain mathematics. -/
namespace Go.Proofs.Ytjikemhmnkckcaa
namespace Cf

/-- class k has the address, by the program -/
def hasB (st : Int) (cls : List (Int × Int)) (addr : Int) (k : Nat) : Bool :=
  decide (16 * gran st cls k ≤ addr) && decide (addr < 16 * gran st cls k + (sl cls k) * (16 * gr cls k))
def cslotFrom (st : Int) (cls : List (Int × Int)) (addr : Int) : Nat → Nat → Int × Int
  | 0, _ => (-1, 0)
  | f + 1, k => if hasB st cls addr k then ((k : Int), (addr - 16 * gran st cls k) / (16 * gr cls k)) else cslotFrom st cls addr f (k + 1)

theorem begin_eq (st : Int) (cls : List (Int × Int)) (k : Nat) (s : Int) : begin_ st cls k s = 16 * gran st cls k + s * (16 * gr cls k) := by
  unfold begin_; rw [Int.mul_add, Int.mul_left_comm]

/-- the slot of an address of the class -/
theorem inS_iff (st : Int) (cls : List (Int × Int)) (addr : Int) (k s : Nat) (hg : 0 < gr cls k) : inS st cls addr k s = true ↔ (addr - 16 * gran st cls k) / (16 * gr cls k) = (s : Int) := by
  simp only [inS, Bool.and_eq_true, decide_eq_true_eq, begin_eq]
  have hw : 0 < 16 * gr cls k := by omega
  generalize 16 * gran st cls k = b at *
  generalize 16 * gr cls k = v at *
  constructor
  · rintro ⟨h1, h2⟩
    have e : addr - b = (addr - b - s * v) + s * v := by omega
    rw [e, Int.add_mul_ediv_right _ _ (by omega), Int.ediv_eq_zero_of_lt (by omega) (by omega)]; omega
  · intro h
    have h1 := Int.mul_ediv_add_emod (addr - b) v
    have h2 := Int.emod_nonneg (addr - b) (show v ≠ 0 by omega)
    have h3 := Int.emod_lt_of_pos (addr - b) hw
    rw [h, Int.mul_comm] at h1
    omega

theorem firstFrom_one (p : Nat → Bool) (s f i : Nat) (h1 : i ≤ s) (h2 : s < i + f) (hp : p s = true) (hn : ∀ j, i ≤ j → j < s → p j = false) : Ref.firstFrom p f i = s := by
  induction f generalizing i with
  | zero => omega
  | succ f ih =>
    simp only [Ref.firstFrom]
    by_cases e : i = s
    · subst e; rw [if_pos hp]
    · rw [if_neg (by rw [hn i (by omega) (by omega)]; simp)]
      exact ih (i + 1) (by omega) (by omega) (fun j h3 h4 => hn j (by omega) h4)
theorem firstFrom_none (p : Nat → Bool) (f i : Nat) (hn : ∀ j, i ≤ j → j < i + f → p j = false) : Ref.firstFrom p f i = -1 := by
  induction f generalizing i with
  | zero => rfl
  | succ f ih =>
    simp only [Ref.firstFrom]
    rw [if_neg (by rw [hn i (by omega) (by omega)]; simp)]
    exact ih (i + 1) (fun j h3 h4 => hn j (by omega) (by omega))

theorem slotIn_eq (st : Int) (cls : List (Int × Int)) (addr : Int) (k : Nat) (hg : 0 < gr cls k) (hs : 0 ≤ sl cls k) :
    slotIn st cls addr k = if hasB st cls addr k then (addr - 16 * gran st cls k) / (16 * gr cls k) else -1 := by
  have hw : 0 < 16 * gr cls k := by omega
  unfold slotIn
  by_cases h : hasB st cls addr k = true
  · rw [if_pos h]
    simp only [hasB, Bool.and_eq_true, decide_eq_true_eq] at h
    have h0 : 0 ≤ (addr - 16 * gran st cls k) / (16 * gr cls k) := Int.ediv_nonneg (by omega) (by omega)
    have h1 : (addr - 16 * gran st cls k) / (16 * gr cls k) < sl cls k := Int.ediv_lt_of_lt_mul hw (by omega)
    obtain ⟨s, hs'⟩ := Int.eq_ofNat_of_zero_le h0
    rw [hs']
    refine firstFrom_one _ s _ 0 (by omega) (by omega) ((inS_iff st cls addr k s hg).2 hs') (fun j _ hj => ?_)
    cases e : inS st cls addr k j
    · rfl
    · have := (inS_iff st cls addr k j hg).1 e; omega
  · rw [if_neg h]
    refine firstFrom_none _ _ _ (fun j _ hj => ?_)
    cases e : inS st cls addr k j
    · rfl
    · exfalso
      apply h
      simp only [inS, Bool.and_eq_true, decide_eq_true_eq, begin_eq] at e
      simp only [hasB, Bool.and_eq_true, decide_eq_true_eq]
      have h2 : (j : Int) * (16 * gr cls k) + (16 * gr cls k) ≤ sl cls k * (16 * gr cls k) := by
        have : ((j : Int) + 1) * (16 * gr cls k) ≤ sl cls k * (16 * gr cls k) := Int.mul_le_mul_of_nonneg_right (by omega) (by omega)
        rw [Int.add_mul] at this; omega
      have h3 : 0 ≤ (j : Int) * (16 * gr cls k) := Int.mul_nonneg (by omega) (by omega)
      omega

theorem cslot_eq {st rest : Int} {cls : List (Int × Int)} (hv : Valid st rest cls) (addr : Int) (f k : Nat) (h : k + f ≤ cls.length) :
    slotFrom st cls addr f k = if (cslotFrom st cls addr f k).1 < 0 then (-1, -1) else cslotFrom st cls addr f k := by
  induction f generalizing k with
  | zero => rfl
  | succ f ih =>
    have hg := hv.g0 k (by omega)
    have hs := hv.s0 k (by omega)
    have hi := slotIn_eq st cls addr k (by omega) (by omega)
    by_cases hh : hasB st cls addr k = true
    · have h0 : 0 ≤ (addr - 16 * gran st cls k) / (16 * gr cls k) := by
        simp only [hasB, Bool.and_eq_true, decide_eq_true_eq] at hh
        exact Int.ediv_nonneg (by omega) (by omega)
      rw [if_pos hh] at hi
      have e1 : cslotFrom st cls addr (f + 1) k = ((k : Int), (addr - 16 * gran st cls k) / (16 * gr cls k)) := if_pos hh
      have e2 : slotFrom st cls addr (f + 1) k = ((k : Int), slotIn st cls addr k) := if_pos (by omega)
      rw [e1, e2, hi, if_neg (by simp)]
    · rw [if_neg hh] at hi
      have e1 : cslotFrom st cls addr (f + 1) k = cslotFrom st cls addr f (k + 1) := if_neg hh
      have e2 : slotFrom st cls addr (f + 1) k = slotFrom st cls addr f (k + 1) := if_neg (by omega)
      rw [e1, e2]
      exact ih (k + 1) (by omega)

/-- the program's slotAt -/
def cslot (st : Int) (cls : List (Int × Int)) (addr : Int) : Int × Int := cslotFrom st cls addr cls.length 0
theorem cslot_no {st rest : Int} {cls : List (Int × Int)} (hv : Valid st rest cls) (addr : Int) (h : slot st cls addr = (-1, -1)) : cslot st cls addr = (-1, 0) := by
  have e := cslot_eq hv addr cls.length 0 (by omega)
  have hx : ∀ f k, (cslotFrom st cls addr f k).1 < 0 → cslotFrom st cls addr f k = (-1, 0) := by
    intro f
    induction f with
    | zero => intro k _; rfl
    | succ f ih =>
      intro k hk
      simp only [cslotFrom] at hk ⊢
      split
      · rename_i hh; rw [if_pos hh] at hk; simp at hk; omega
      · rename_i hh; rw [if_neg hh] at hk; exact ih _ hk
  unfold slot at h
  unfold cslot
  rw [h] at e
  by_cases h1 : (cslotFrom st cls addr cls.length 0).1 < 0
  · exact hx _ _ h1
  · rw [if_neg h1] at e; rw [← e] at h1; simp at h1
theorem cslot_yes {st rest : Int} {cls : List (Int × Int)} (hv : Valid st rest cls) (addr : Int) (i j : Nat) (h : slot st cls addr = ((i : Int), (j : Int))) : cslot st cls addr = ((i : Int), (j : Int)) := by
  have e := cslot_eq hv addr cls.length 0 (by omega)
  unfold slot at h
  unfold cslot
  rw [h] at e
  by_cases h1 : (cslotFrom st cls addr cls.length 0).1 < 0
  · rw [if_pos h1] at e; simp at e
  · rw [if_neg h1] at e; exact e.symm
end Cf
end Go.Proofs.Ytjikemhmnkckcaa
/- The program's own look at a configuration. -/
namespace Go.Proofs.Ytjikemhmnkckcaa
open Go.RowKit
theorem hide2 {p : Prop} (h : p) : Hid p := h

def withinB (n lo hi : Int) : Bool := decide (lo ≤ n) && decide (n ≤ hi)

set_option maxHeartbeats 400000 in
theorem within_any (n lo hi : Int) (w : World) :
    Calls Try.prog 103 #[.int .i64 n, .int .i64 lo, .int .i64 hi] w fun e w' => e = .returned (.bool (withinB n lo hi)) ∧ w' = w := by
  go_enter Try.func103, Try.ntmps103
  go_wp2
  all_goals
    go_ret
    refine ⟨ret_bool ?_, rfl⟩
    first | (simp [withinB, *]; done) | (simp [withinB, *]; omega)

namespace Cf
/-- the program's look at class i -/
def entryC (cls : List (Int × Int)) (i : Nat) : Bool := withinB (gr cls i) ((if i = 0 then 0 else gr cls (i - 1)) + 1) 8 && withinB (sl cls i) 1 16
def classesC (cls : List (Int × Int)) : Bool := withinB cls.length 1 4 && allTo (entryC cls) cls.length

theorem classes_eq (st rest : Int) (cls : List (Int × Int)) : validB st rest cls = (headB st rest && classesC cls) := by
  unfold validB
  congr 1
  rw [Bool.eq_iff_iff]
  simp only [classesC, Bool.and_eq_true, allTo_iff, decide_eq_true_eq, withinB]
  constructor
  · rintro ⟨h1, h2⟩
    have he : ∀ i, i < cls.length → i < 4 ∧ 1 ≤ gr cls i ∧ gr cls i ≤ 8 ∧ 1 ≤ sl cls i ∧ sl cls i ≤ 16 ∧ ∀ j, j < i → gr cls j < gr cls i := fun i hi => by
      have := h1 i hi
      simp only [entryB, Bool.and_eq_true, decide_eq_true_eq, allTo_iff] at this
      obtain ⟨⟨⟨⟨⟨a, b⟩, c⟩, d⟩, e⟩, f⟩ := this
      exact ⟨a, b, c, d, e, f⟩
    refine ⟨⟨by omega, ?_⟩, fun i hi => ?_⟩
    · have := (he (cls.length - 1) (by omega)).1; omega
    · obtain ⟨a, b, c, d, e, f⟩ := he i hi
      simp only [entryC, withinB, Bool.and_eq_true, decide_eq_true_eq]
      refine ⟨⟨?_, c⟩, d, e⟩
      by_cases h0 : i = 0
      · rw [if_pos h0]; omega
      · rw [if_neg h0]; have := f (i - 1) (by omega); omega
  · rintro ⟨⟨h1, h2⟩, h3⟩
    have he : ∀ i, i < cls.length → (if i = 0 then 0 else gr cls (i - 1)) + 1 ≤ gr cls i ∧ gr cls i ≤ 8 ∧ 1 ≤ sl cls i ∧ sl cls i ≤ 16 := fun i hi => by
      have := h3 i hi
      simp only [entryC, withinB, Bool.and_eq_true, decide_eq_true_eq] at this
      exact ⟨this.1.1, this.1.2, this.2.1, this.2.2⟩
    have hup : ∀ i, i < cls.length → 1 ≤ gr cls i ∧ ∀ j, j < i → gr cls j < gr cls i := by
      intro i
      induction i with
      | zero => intro hi; have := (he 0 hi).1; simp at this; exact ⟨this, fun j hj => by omega⟩
      | succ i ih =>
        intro hi
        obtain ⟨a, b⟩ := ih (by omega)
        have := (he (i + 1) hi).1
        rw [if_neg (by omega), show i + 1 - 1 = i by omega] at this
        refine ⟨by omega, fun j hj => ?_⟩
        by_cases e : j = i
        · subst e; omega
        · have := b j (by omega); omega
    refine ⟨fun i hi => ?_, by omega⟩
    simp only [entryB, Bool.and_eq_true, decide_eq_true_eq, allTo_iff]
    exact ⟨⟨⟨⟨⟨by omega, (hup i hi).1⟩, (he i hi).2.1⟩, (he i hi).2.2.1⟩, (he i hi).2.2.2⟩, (hup i hi).2⟩
end Cf

set_option maxHeartbeats 1000000 in
theorem classes_any (a : Option Addr) (cap : Nat) (cls : List (Int × Int)) (w : World) (h : CRow w a cap cls) :
    Calls Try.prog 104 #[.slice a cls.length cap] w fun e w' => e = .returned (.bool (Cf.classesC cls)) ∧ w' = w := by
  have hlen := h.len
  have hcap := h.cap
  unfold maxLen at hcap
  have HC : Hid (CCells w a cls) := h.cells
  clear h
  cases hw : withinB cls.length 1 4
  · have hfin : Hid (Cf.classesC cls = false) := by show _ = _; simp [Cf.classesC, hw]
    have HW : Hid (withinB cls.length 1 4 = false) := hw
    clear hw
    go_enter Try.func104, Try.ntmps104
    go_wp2_with (go_at_call 103; refine (within_any _ _ _ _).mono ?_; rw [HW.out]; rintro e1 w1 ⟨rfl, rfl⟩)
    go_ret
    exact ⟨ret_bool hfin.out.symm, rfl⟩
  · have hb : 1 ≤ (cls.length : Int) ∧ (cls.length : Int) ≤ 4 := by simpa [withinB] using hw
    have hfin : Hid (Cf.classesC cls = Cf.allTo (Cf.entryC cls) cls.length) := by show _ = _; simp [Cf.classesC, hw]
    have HW : Hid (withinB cls.length 1 4 = true) := hw
    obtain ⟨b1, b2⟩ := hb
    clear hw
    obtain ⟨g, off, rfl, hgl, hcell⟩ := HC.out (by omega)
    have HCL : Hid (∀ i, i < cls.length → w.cell? ⟨g, off + i * 2, none⟩ = some (.int .i64 (Cf.gr cls i)) ∧ w.cell? ⟨g, off + i * 2 + 1, none⟩ = some (.int .i64 (Cf.sl cls i))) := hcell
    clear hcell HC
    go_enter Try.func104, Try.ntmps104
    go_wp2_with (go_at_call 103; refine (within_any _ _ _ _).mono ?_; rw [HW.out]; rintro e1 w1 ⟨rfl, rfl⟩)
    go_loop [3, 4] (fun h i => ∃ (m : Nat) (x : Int), m ≤ cls.length ∧ i = .int .i64 (m : Int) ∧ h = .int .i64 x ∧ x ≤ 8 ∧ 0 ≤ x ∧ Hid (x = if m = 0 then 0 else Cf.gr cls (m - 1)) ∧ Hid (Cf.allTo (Cf.entryC cls) m = true)) (fun _ i => cls.length - (intOf i).toNat)
    case atStart => exact ⟨0, 0, by omega, rfl, rfl, by omega, by omega, rfl, rfl⟩
    case round =>
      obtain ⟨m, x, hm, rfl, rfl, x8, x0, hx, hall⟩ := hrel
      by_cases hlt : m < cls.length
      · obtain ⟨d0, d1⟩ := HCL.out m hlt
        have hent : Hid (Cf.entryC cls m = (withinB (Cf.gr cls m) (x + 1) 8 && withinB (Cf.sl cls m) 1 16)) := by show _ = _; rw [hx.out]; rfl
        have hno : Hid (Cf.entryC cls m = false → Cf.classesC cls = false) := fun h => by rw [hfin.out]; exact Cf.allTo_false _ hlt h
        have hxt : Hid (Cf.gr cls m = if m + 1 = 0 then 0 else Cf.gr cls (m + 1 - 1)) := by show _ = _; rw [if_neg (by omega)]; rfl
        cases h1 : withinB (Cf.gr cls m) (x + 1) 8
        · have H1 : Hid (withinB (Cf.gr cls m) (x + 1) 8 = false) := h1
          have hff : Hid (Cf.classesC cls = false) := hno.out (by rw [hent.out, h1]; rfl)
          clear h1 hent hno hxt
          go_wp2_with (go_at_call 103; refine (within_any _ _ _ _).mono ?_; rw [H1.out]; rintro e1 w1 ⟨rfl, rfl⟩)
          go_ret
          exact ⟨ret_bool hff.out.symm, rfl⟩
        · have hxb : x + 1 ≤ Cf.gr cls m ∧ Cf.gr cls m ≤ 8 := by simpa [withinB] using h1
          have H1 : Hid (withinB (Cf.gr cls m) (x + 1) 8 = true) := h1
          cases h2 : withinB (Cf.sl cls m) 1 16
          · have H2 : Hid (withinB (Cf.sl cls m) 1 16 = false) := h2
            have hff : Hid (Cf.classesC cls = false) := hno.out (by rw [hent.out, h1, h2]; rfl)
            clear h1 h2 hent hno hxt
            go_wp2_with fail
            refine (within_any _ _ _ _).mono ?_; rw [H1.out]; rintro e1 w1 ⟨rfl, rfl⟩
            go_wp2_with fail
            refine (within_any _ _ _ _).mono ?_; rw [H2.out]; rintro e1 w1 ⟨rfl, rfl⟩
            go_wp2
            go_ret
            exact ⟨ret_bool hff.out.symm, rfl⟩
          · have H2 : Hid (withinB (Cf.sl cls m) 1 16 = true) := h2
            have hall2 : Hid (Cf.allTo (Cf.entryC cls) (m + 1) = true) := by show (_ && _) = true; rw [hall.out, hent.out, h1, h2]; rfl
            clear h1 h2 hent hno
            go_wp2_with fail
            refine (within_any _ _ _ _).mono ?_; rw [H1.out]; rintro e1 w1 ⟨rfl, rfl⟩
            go_wp2_with fail
            refine (within_any _ _ _ _).mono ?_; rw [H2.out]; rintro e1 w1 ⟨rfl, rfl⟩
            go_wp2
            go_round
            case rel => exact ⟨m + 1, Cf.gr cls m, by omega, by go_num, rfl, by omega, by omega, hxt, hall2⟩
            case measure => simp [intOf]; omega
      · obtain rfl : m = cls.length := by omega
        go_wp2
        go_ret
        exact ⟨ret_bool (by rw [hfin.out, hall.out]), rfl⟩

set_option maxHeartbeats 1000000 in
theorem validConf_any (st rest : Int) (a : Option Addr) (cap : Nat) (cls : List (Int × Int)) (w : World) (h : CRow w a cap cls) :
    Calls Try.prog 75 #[.agg #[.int .i64 st, .int .i64 rest, .slice a cls.length cap]] w fun e w' => e = .returned (.bool (Cf.validB st rest cls)) ∧ Below w.heap.size w w' := by
  have HV : Hid (Cf.validB st rest cls = (withinB st 0 16 && withinB rest 0 16 && Cf.classesC cls)) := by
    show _ = _
    rw [Cf.classes_eq]; simp [Cf.headB, withinB, Bool.and_assoc]
  have HC : Hid (CRow w a cap cls) := h
  clear h
  cases h1 : withinB st 0 16
  · have H1 : Hid (withinB st 0 16 = false) := h1
    have hff : Hid (Cf.validB st rest cls = false) := by show _ = _; rw [HV.out, h1]; rfl
    clear h1
    go_enter Try.func75, Try.ntmps75
    go_wp2_with (go_at_call 103; refine (within_any _ _ _ _).mono ?_; rw [H1.out]; rintro e1 w1 ⟨rfl, rfl⟩)
    go_ret
    exact ⟨ret_bool hff.out.symm, (Below.refl _ _).alloc (Nat.le_refl _) _⟩
  · cases h2 : withinB rest 0 16
    · have H1 : Hid (withinB st 0 16 = true) := h1
      have H2 : Hid (withinB rest 0 16 = false) := h2
      have hff : Hid (Cf.validB st rest cls = false) := by show _ = _; rw [HV.out, h1, h2]; rfl
      clear h1 h2
      go_enter Try.func75, Try.ntmps75
      go_wp2_with fail
      refine (within_any _ _ _ _).mono ?_; rw [H1.out]; rintro e1 w1 ⟨rfl, rfl⟩
      go_wp2_with fail
      refine (within_any _ _ _ _).mono ?_; rw [H2.out]; rintro e1 w1 ⟨rfl, rfl⟩
      go_wp2
      go_ret
      exact ⟨ret_bool hff.out.symm, (Below.refl _ _).alloc (Nat.le_refl _) _⟩
    · have H1 : Hid (withinB st 0 16 = true) := h1
      have H2 : Hid (withinB rest 0 16 = true) := h2
      have hff : Hid (Cf.validB st rest cls = Cf.classesC cls) := by show _ = _; rw [HV.out, h1, h2]; rfl
      clear h1 h2
      go_enter Try.func75, Try.ntmps75
      go_wp2_with fail
      refine (within_any _ _ _ _).mono ?_; rw [H1.out]; rintro e1 w1 ⟨rfl, rfl⟩
      go_wp2_with fail
      refine (within_any _ _ _ _).mono ?_; rw [H2.out]; rintro e1 w1 ⟨rfl, rfl⟩
      go_wp2_with (go_at_call 104; refine (classes_any _ cap cls _ (HC.out.below ((Below.refl _ _).alloc (Nat.le_refl _) _))).mono ?_; rintro e1 w1 ⟨rfl, rfl⟩)
      go_ret
      exact ⟨ret_bool hff.out.symm, (Below.refl _ _).alloc (Nat.le_refl _) _⟩
end Go.Proofs.Ytjikemhmnkckcaa
