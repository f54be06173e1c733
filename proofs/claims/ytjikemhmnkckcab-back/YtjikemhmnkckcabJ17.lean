import Derived.Test.YtjikemhmnkckcabJ16
import Derived.Test.YtjikemhmnkckcabJ13
/- A program is read back from its image; a part of an image is none, nor is one with a byte behind it. -/
namespace Go.Proofs.Ytjikemhmnkckcab
open Go.RowKit

section
variable {st rest : Int} {cls : List (Int × Int)} {e : ByteArray} {code : List Ins}
theorem img1_at (s0 : 0 ≤ st) (s1 : st ≤ 255) (r0 : 0 ≤ rest) (r1 : rest ≤ 255) (n1 : cls.length ≤ 255) : byteAt (img1 st rest cls) 2 = st ∧ byteAt (img1 st rest cls) 3 = rest ∧ byteAt (img1 st rest cls) 4 = cls.length := by
  unfold img1
  have e2 : (⟨#[71, 82]⟩ : ByteArray).size = 2 := rfl
  have h3 : ((⟨#[71, 82]⟩ : ByteArray) ++ bOne st).size = 3 := by rw [ByteArray.size_append, e2]; rfl
  have h4 : ((⟨#[71, 82]⟩ : ByteArray) ++ bOne st ++ bOne rest).size = 4 := by rw [ByteArray.size_append, h3]; rfl
  refine ⟨?_, ?_, ?_⟩
  · rw [byteAt_app _ _ _ (by omega), byteAt_app _ _ _ (by omega)]
    exact byteAt_app_one _ st s0 s1
  · rw [byteAt_app _ _ _ (by omega), ← h3]
    exact byteAt_app_one _ rest r0 r1
  · rw [← h4]
    exact byteAt_app_one _ (cls.length : Int) (by omega) (by omega)
theorem img2_at (hg : ∀ i, i < cls.length → (0 ≤ Cf.gr cls i ∧ Cf.gr cls i ≤ 255) ∧ 0 ≤ Cf.sl cls i ∧ Cf.sl cls i ≤ 255) (m i : Nat) (hm : m ≤ cls.length) (hi : i < m) : byteAt (img2 st rest cls m) (5 + 2 * i) = Cf.gr cls i ∧ byteAt (img2 st rest cls m) (6 + 2 * i) = Cf.sl cls i := by
  induction m with
  | zero => omega
  | succ m ih =>
    unfold img2
    have hs := img2_size st rest cls m
    have hs2 : (img2 st rest cls m ++ bOne (Cf.gr cls m)).size = 6 + 2 * m := by rw [ByteArray.size_append, bOne_size, hs]; omega
    by_cases h : i = m
    · subst h
      refine ⟨?_, ?_⟩
      · rw [byteAt_app _ _ _ (by omega), ← hs]
        exact byteAt_app_one _ _ (hg i (by omega)).1.1 (hg i (by omega)).1.2
      · rw [← hs2]
        exact byteAt_app_one _ _ (hg i (by omega)).2.1 (hg i (by omega)).2.2
    · have := ih (by omega) (by omega)
      rw [byteAt_app _ _ _ (by omega), byteAt_app _ _ _ (by omega), byteAt_app _ _ _ (by omega), byteAt_app _ _ _ (by omega)]
      exact this
theorem byteAt_right (b c : ByteArray) (j : Nat) : byteAt (b ++ c) (b.size + j) = byteAt c j := by
  unfold byteAt
  rw [app_list, List.getElem?_append_right (by simp)]
  simp
theorem img3_at (he : e.size ≤ 255) (n : Nat) (hn : n ≤ 255) : byteAt (img3 st rest cls e n) (5 + 2 * cls.length) = e.size ∧ (∀ j, j < e.size → byteAt (img3 st rest cls e n) (6 + 2 * cls.length + j) = byteAt e j) ∧ byteAt (img3 st rest cls e n) (6 + 2 * cls.length + e.size) = n := by
  have hs := img2_size st rest cls cls.length
  have hs2 : (img2 st rest cls cls.length ++ bOne (e.size : Int)).size = 6 + 2 * cls.length := by rw [ByteArray.size_append, bOne_size, hs]; omega
  have hs3 : (img2 st rest cls cls.length ++ bOne (e.size : Int) ++ e).size = 6 + 2 * cls.length + e.size := by rw [ByteArray.size_append, hs2]
  refine ⟨img3_len _ _ _ _ _ he, fun j hj => ?_, ?_⟩
  · unfold img3
    rw [byteAt_app _ _ _ (by omega), ← hs2]
    exact byteAt_right _ _ j
  · unfold img3
    rw [← hs3]
    exact byteAt_app_one _ (n : Int) (by omega) (by omega)
theorem img3_cls (n : Nat) (k : Nat) (hk : k < 5 + 2 * cls.length) : byteAt (img3 st rest cls e n) k = byteAt (img2 st rest cls cls.length) k := by
  have hs := img2_size st rest cls cls.length
  unfold img3
  rw [byteAt_app _ _ _ (by simp only [ByteArray.size_append, bOne_size]; omega), byteAt_app _ _ _ (by simp only [ByteArray.size_append, bOne_size]; omega), byteAt_app _ _ _ (by omega)]
theorem img4_at (hb : ∀ i, i < code.length → (0 ≤ (code.getD i Ins.no).op ∧ (code.getD i Ins.no).op ≤ 255) ∧ (0 ≤ (code.getD i Ins.no).a ∧ (code.getD i Ins.no).a ≤ 255) ∧ (0 ≤ (code.getD i Ins.no).b ∧ (code.getD i Ins.no).b ≤ 255) ∧ (0 ≤ (code.getD i Ins.no).c ∧ (code.getD i Ins.no).c ≤ 255)) (t i : Nat) (ht : t ≤ code.length) (hi : i < t) :
    byteAt (img4 st rest cls e code t) (7 + 2 * cls.length + e.size + 4 * i) = (code.getD i Ins.no).op ∧ byteAt (img4 st rest cls e code t) (7 + 2 * cls.length + e.size + 4 * i + 1) = (code.getD i Ins.no).a ∧ byteAt (img4 st rest cls e code t) (7 + 2 * cls.length + e.size + 4 * i + 2) = (code.getD i Ins.no).b ∧ byteAt (img4 st rest cls e code t) (7 + 2 * cls.length + e.size + 4 * i + 3) = (code.getD i Ins.no).c := by
  induction t with
  | zero => omega
  | succ t ih =>
    unfold img4
    have hs := img4_size st rest cls e code t
    have hs1 : (img4 st rest cls e code t ++ bOne (code.getD t Ins.no).op).size = 7 + 2 * cls.length + e.size + 4 * t + 1 := by rw [ByteArray.size_append, bOne_size, hs]
    have hs2 : (img4 st rest cls e code t ++ bOne (code.getD t Ins.no).op ++ bOne (code.getD t Ins.no).a).size = 7 + 2 * cls.length + e.size + 4 * t + 2 := by rw [ByteArray.size_append, bOne_size, hs1]
    have hs3 : (img4 st rest cls e code t ++ bOne (code.getD t Ins.no).op ++ bOne (code.getD t Ins.no).a ++ bOne (code.getD t Ins.no).b).size = 7 + 2 * cls.length + e.size + 4 * t + 3 := by rw [ByteArray.size_append, bOne_size, hs2]
    by_cases h : i = t
    · subst h
      obtain ⟨o, a, b, c⟩ := hb i (by omega)
      refine ⟨?_, ?_, ?_, ?_⟩
      · rw [byteAt_app _ _ _ (by omega), byteAt_app _ _ _ (by omega), byteAt_app _ _ _ (by omega), ← hs]
        exact byteAt_app_one _ _ o.1 o.2
      · rw [byteAt_app _ _ _ (by omega), byteAt_app _ _ _ (by omega), ← hs1]
        exact byteAt_app_one _ _ a.1 a.2
      · rw [byteAt_app _ _ _ (by omega), ← hs2]
        exact byteAt_app_one _ _ b.1 b.2
      · rw [← hs3]
        exact byteAt_app_one _ _ c.1 c.2
    · have := ih (by omega) (by omega)
      rw [byteAt_app _ _ _ (by omega), byteAt_app _ _ _ (by omega), byteAt_app _ _ _ (by omega), byteAt_app _ _ _ (by omega), byteAt_app _ _ _ (by omega), byteAt_app _ _ _ (by omega), byteAt_app _ _ _ (by omega), byteAt_app _ _ _ (by omega), byteAt_app _ _ _ (by omega), byteAt_app _ _ _ (by omega), byteAt_app _ _ _ (by omega), byteAt_app _ _ _ (by omega), byteAt_app _ _ _ (by omega), byteAt_app _ _ _ (by omega), byteAt_app _ _ _ (by omega), byteAt_app _ _ _ (by omega)]
      exact this
end

/-- What is read of the image of a sound program. -/
theorem img_back {st rest : Int} {cls : List (Int × Int)} {e : ByteArray} {code : List Ins} (hs : soundB st rest cls e.size code = true) :
    let s := img4 st rest cls e code code.length
    imgB s = true ∧ byteAt s 2 = st ∧ byteAt s 3 = rest ∧ pCls s = cls ∧ pData s = e ∧ pCode s = code ∧ s.size = pEnd s := by
  intro s
  have hval : Cf.Valid st rest cls := by
    refine Cf.valid_of ?_
    unfold soundB at hs
    simp only [Bool.and_eq_true] at hs
    exact hs.1.1
  have hd : e.size ≤ 255 ∧ withinB code.length 1 255 = true ∧ codeB code code.length = true := by
    unfold soundB at hs
    simp only [Bool.and_eq_true, decide_eq_true_eq] at hs
    exact ⟨hs.1.2.1, hs.2.1, hs.2.2⟩
  have hn : code.length ≤ 255 := by have := hd.2.1; unfold withinB at this; simp at this; omega
  have he := hd.1
  have st0 := hval.st0
  have st1 := hval.st1
  have re0 := hval.re0
  have re1 := hval.re1
  have n1 := hval.n1
  have hg : ∀ i, i < cls.length → (0 ≤ Cf.gr cls i ∧ Cf.gr cls i ≤ 255) ∧ 0 ≤ Cf.sl cls i ∧ Cf.sl cls i ≤ 255 := fun i hi => by
    have := hval.g0 i hi
    have := hval.g1 i hi
    have := hval.s0 i hi
    have := hval.s1 i hi
    omega
  have hb : ∀ i, i < code.length → (0 ≤ (code.getD i Ins.no).op ∧ (code.getD i Ins.no).op ≤ 255) ∧ (0 ≤ (code.getD i Ins.no).a ∧ (code.getD i Ins.no).a ≤ 255) ∧ (0 ≤ (code.getD i Ins.no).b ∧ (code.getD i Ins.no).b ≤ 255) ∧ (0 ≤ (code.getD i Ins.no).c ∧ (code.getD i Ins.no).c ≤ 255) := fun i hi => may_bd (codeB_at hd.2.2 hi) (by omega)
  have hsize : s.size = 7 + 2 * cls.length + e.size + 4 * code.length := img4_size _ _ _ _ _ _
  have hpre : ∀ k, k < 7 + 2 * cls.length + e.size → byteAt s k = byteAt (img3 st rest cls e code.length) k := fun k hk => img4_pre _ _ _ _ _ _ _ hk
  have h1 := img1_at (st := st) (rest := rest) (cls := cls) (by omega) (by omega) (by omega) (by omega) (by omega)
  have h5 : ∀ k, k < 5 → byteAt s k = byteAt (img1 st rest cls) k := fun k hk => by rw [hpre k (by omega), img3_pre _ _ _ _ _ _ hk]
  have hN : pN s = cls.length := by unfold pN; rw [h5 4 (by omega), h1.2.2]; simp
  have hD : pD s = 5 + 2 * cls.length := by unfold pD; rw [hN]
  have h3 := img3_at (st := st) (rest := rest) (cls := cls) (e := e) he code.length hn
  have hM : pM s = e.size := by unfold pM; rw [hD, hpre _ (by omega), h3.1]; simp
  have hF : pF s = 6 + 2 * cls.length + e.size := by unfold pF; rw [hD, hM]; omega
  have hL : pL s = code.length := by unfold pL; rw [hF, hpre _ (by omega), h3.2.2]; simp
  have hE : pEnd s = s.size := by unfold pEnd; rw [hF, hL, hsize]; omega
  have hcls : pCls s = cls := by
    apply List.ext_getElem?
    intro i
    unfold pCls
    rw [hN]
    by_cases hi : i < cls.length
    · have h2 := img2_at (st := st) (rest := rest) hg cls.length i (Nat.le_refl _) hi
      rw [List.getElem?_eq_getElem hi]
      simp only [List.getElem?_map, List.getElem?_range hi, Option.map_some]
      rw [hpre _ (by omega), hpre _ (by omega), img3_cls _ _ (by omega), img3_cls _ _ (by omega), h2.1, h2.2]
      simp [Cf.gr, Cf.sl, List.getD_eq_getElem?_getD, List.getElem?_eq_getElem hi]
    · rw [List.getElem?_eq_none (by simp; omega), List.getElem?_eq_none (by omega)]
  have hcode : pCode s = code := by
    apply List.ext_getElem?
    intro i
    unfold pCode
    rw [hL]
    by_cases hi : i < code.length
    · have h4 := img4_at (st := st) (rest := rest) (cls := cls) (e := e) hb code.length i (Nat.le_refl _) hi
      rw [List.getElem?_eq_getElem hi]
      simp only [List.getElem?_map, List.getElem?_range hi, Option.map_some]
      unfold pIns
      rw [hF, show 6 + 2 * cls.length + e.size + 1 + 4 * i = 7 + 2 * cls.length + e.size + 4 * i by omega, h4.1, h4.2.1, h4.2.2.1, h4.2.2.2]
      simp [List.getD_eq_getElem?_getD, List.getElem?_eq_getElem hi]
    · rw [List.getElem?_eq_none (by simp; omega), List.getElem?_eq_none (by omega)]
  have hdata : pData s = e := by
    unfold pData
    rw [if_pos (by omega), ← pDataG_eq (by omega)]
    apply bext
    show ((List.range (pM s)).map fun j => UInt8.ofNat (byteAt s (pD s + 1 + j)).toNat) = _
    apply List.ext_getElem?
    intro i
    rw [hM, hD]
    by_cases hi : i < e.size
    · simp only [List.getElem?_map, List.getElem?_range hi, Option.map_some]
      rw [hpre _ (by omega), show 5 + 2 * cls.length + 1 + i = 6 + 2 * cls.length + i by omega, h3.2.1 i hi, byteAt_list hi]
    · rw [List.getElem?_eq_none (by simp; omega), List.getElem?_eq_none (by simp; omega)]
  have hst : byteAt s 2 = st := by rw [h5 2 (by omega), h1.1]
  have hre : byteAt s 3 = rest := by rw [h5 3 (by omega), h1.2.1]
  have hhead : pHead s = true := by
    unfold pHead
    rw [h5 0 (by omega), h5 1 (by omega), (img1_head st rest cls).1, (img1_head st rest cls).2]
    rfl
  refine ⟨?_, hst, hre, hcls, hdata, hcode, hE.symm⟩
  unfold imgB pSound
  rw [hhead, hst, hre, hcls, hcode, hM, hs]
  simp [hE]

/-- Two texts that agree as far as one of them goes: at most one is an image, if their lengths differ. -/
theorem imgB_prefix {d s : ByteArray} (hp : ∀ k, k < d.size → byteAt s k = byteAt d k) (hd : imgB d = true) : pEnd s = d.size := by
  unfold imgB at hd
  simp only [Bool.and_eq_true, decide_eq_true_eq] at hd
  have hE := hd.1.2
  have h0 : pEnd d = pF d + 1 + 4 * pL d := rfl
  have h1 : pF d = pD d + 1 + pM d := rfl
  have h2 : pD d = 5 + 2 * pN d := rfl
  have hN : pN s = pN d := by unfold pN; rw [hp 4 (by omega)]
  have hD : pD s = pD d := by unfold pD; rw [hN]
  have hM : pM s = pM d := by unfold pM; rw [hD, hp _ (by omega)]
  have hF : pF s = pF d := by unfold pF; rw [hD, hM]
  have hL : pL s = pL d := by unfold pL; rw [hF, hp _ (by omega)]
  unfold pEnd
  rw [hF, hL]
  omega
theorem imgB_end {d : ByteArray} (h : imgB d = true) : pEnd d = d.size := by
  unfold imgB at h
  simp only [Bool.and_eq_true, decide_eq_true_eq] at h
  exact h.1.2
theorem imgB_short {s : ByteArray} (h : imgB s = true) (k : Nat) (hk : k < s.size) : imgB (s.extract 0 k) = false := by
  have hsz : (s.extract 0 k).size = k := by rw [ByteArray.size_extract]; omega
  cases hb : imgB (s.extract 0 k) with
  | false => rfl
  | true =>
    have := imgB_prefix (s := s) (fun j hj => by
      rw [hsz] at hj
      unfold byteAt
      rw [Go.Lib.extract_data]
      simp [hj]) hb
    have := imgB_end h
    omega
theorem imgB_long {s c : ByteArray} (h : imgB s = true) (hc : 0 < c.size) : imgB (s ++ c) = false := by
  have hsz : (s ++ c).size = s.size + c.size := ByteArray.size_append
  cases hb : imgB (s ++ c) with
  | false => rfl
  | true =>
    have := imgB_prefix (d := s) (s := s ++ c) (fun j hj => byteAt_app _ _ _ hj) h
    have := imgB_end hb
    omega
end Go.Proofs.Ytjikemhmnkckcab
/- How the program's heap (granule.Heap) lies in memory. -/
namespace Go.Proofs.Ytjikemhmnkckcab
open Go.RowKit

structure GSlot where
  state : Int
  tag : Int
  bytes : Int
  rest : Int
  alloc : Int
  gone : Int
def GSlot.no : GSlot := ⟨0, 0, 0, 0, 0, 0⟩
def GSlot.virgin : GSlot := ⟨2, 0, 0, 0, 0, 0⟩
def slotCells (x : GSlot) : List Value := [.int .i64 x.state, .int .i64 x.tag, .int .i64 x.bytes, .int .i64 x.rest, .int .i64 x.alloc, .int .i64 x.gone]

structure GCls where
  begin_ : Int
  bytes : Int
  slots : List GSlot
  sb : Nat
def GCls.no : GCls := ⟨0, 0, [], 0⟩
def gclsCells (c : GCls) : List Value := [.int .i64 c.begin_, .int .i64 c.bytes, .slice (some ⟨c.sb, 0, none⟩) c.slots.length c.slots.length]

structure GSt where
  st : Int
  rest : Int
  cs : List GCls
  mem : List Int

structure GRep (w : World) (p : Nat) (vc : Value) (bb : Nat) (G : GSt) : Prop where
  blk : Blk w p 82 [.int .i64 G.st, .int .i64 G.rest, vc, .slice (some ⟨bb, 0, none⟩) G.mem.length G.mem.length]
  cls : w.ownsRow 0 93 3 vc G.cs.length (G.cs.flatMap gclsCells)
  slots : ∀ k, k < G.cs.length → Blk w (G.cs.getD k GCls.no).sb 97 ((G.cs.getD k GCls.no).slots.flatMap slotCells)
  mem : Blk w bb 5 (G.mem.map (Value.int .u8))
  apC : vc.ownBlock ≠ some p
  apB : bb ≠ p
  apCB : vc.ownBlock ≠ some bb
  apS : ∀ k, k < G.cs.length → (G.cs.getD k GCls.no).sb ≠ p ∧ (G.cs.getD k GCls.no).sb ≠ bb ∧ vc.ownBlock ≠ some (G.cs.getD k GCls.no).sb
  apSS : ∀ j k, j < G.cs.length → k < G.cs.length → j ≠ k → (G.cs.getD j GCls.no).sb ≠ (G.cs.getD k GCls.no).sb

/-- which blocks are the heap's own -/
def GFoot (p : Nat) (vc : Value) (bb : Nat) (G : GSt) (b : Nat) : Prop := b = p ∨ vc.ownBlock = some b ∨ b = bb ∨ ∃ k, k < G.cs.length ∧ b = (G.cs.getD k GCls.no).sb

theorem GRep.foot_lt {w : World} {p : Nat} {vc : Value} {bb : Nat} {G : GSt} (h : GRep w p vc bb G) {b : Nat} (hb : GFoot p vc bb G b) : b < w.heap.size := by
  rcases hb with rfl | hb | rfl | ⟨k, hk, rfl⟩
  · exact h.blk.lt
  · exact row_lt h.cls hb
  · exact h.mem.lt
  · exact (h.slots k hk).lt

/-- where its blocks are kept the heap is as it was -/
theorem GRep.kept {w w' : World} {p : Nat} {vc : Value} {bb : Nat} {G : GSt} (h : GRep w p vc bb G) (hk : ∀ b, GFoot p vc bb G b → w'.heap[b]? = w.heap[b]?) : GRep w' p vc bb G :=
  ⟨(hk p (.inl rfl)).trans h.blk, row_kept h.cls (fun g hg => hk g (.inr (.inl hg))), fun k hk' => (hk _ (.inr (.inr (.inr ⟨k, hk', rfl⟩)))).trans (h.slots k hk'), (hk bb (.inr (.inr (.inl rfl)))).trans h.mem, h.apC, h.apB, h.apCB, h.apS, h.apSS⟩
theorem GRep.below {w w' : World} {p : Nat} {vc : Value} {bb : Nat} {G : GSt} (h : GRep w p vc bb G) (hb : Below w.heap.size w w') : GRep w' p vc bb G :=
  h.kept fun b hf => hb.block b (h.foot_lt hf)

theorem flat_set {α : Type} (enc : α → List Value) (m : Nat) (hm : ∀ x, (enc x).length = m) (xs : List α) (d : α) (i j : Nat) (hi : i < xs.length) (hj : j < m) (x' : α) (v : Value) (h : enc x' = (enc (xs.getD i d)).set j v) :
    (xs.flatMap enc).set (i * m + j) v = (xs.set i x').flatMap enc := by
  induction xs generalizing i with
  | nil => simp at hi
  | cons x xs ih =>
    cases i with
    | zero =>
      simp only [Nat.zero_mul, Nat.zero_add, List.flatMap_cons, List.set_cons_zero]
      rw [List.set_append_left _ _ (by rw [hm]; exact hj)]
      simp only [List.getD_cons_zero] at h
      rw [h]
    | succ i =>
      simp only [List.flatMap_cons, List.set_cons_succ]
      rw [List.set_append_right _ _ (by rw [hm, Nat.succ_mul]; omega), hm, show (i + 1) * m + j - m = i * m + j by rw [Nat.succ_mul]; omega]
      rw [ih i (by simpa using hi) (by simpa using h)]

/-- a slot's cells, one by one -/
theorem slot_cells {w : World} {b : Nat} {xs : List GSlot} (h : Blk w b 97 (xs.flatMap slotCells)) (i : Nat) (hi : i < xs.length) :
    w.cell? ⟨b, i * 6, none⟩ = some (.int .i64 (xs.getD i GSlot.no).state) ∧ w.cell? ⟨b, i * 6 + 1, none⟩ = some (.int .i64 (xs.getD i GSlot.no).tag) ∧ w.cell? ⟨b, i * 6 + 2, none⟩ = some (.int .i64 (xs.getD i GSlot.no).bytes) ∧
    w.cell? ⟨b, i * 6 + 3, none⟩ = some (.int .i64 (xs.getD i GSlot.no).rest) ∧ w.cell? ⟨b, i * 6 + 4, none⟩ = some (.int .i64 (xs.getD i GSlot.no).alloc) ∧ w.cell? ⟨b, i * 6 + 5, none⟩ = some (.int .i64 (xs.getD i GSlot.no).gone) := by
  have h6 : ∀ j, j < 6 → (xs.flatMap slotCells)[i * 6 + j]? = (slotCells (xs.getD i GSlot.no))[j]? := fun j hj => by
    rw [flat_get slotCells 6 (fun _ => rfl) xs i j hj, List.getElem?_eq_getElem hi]
    simp [List.getD_eq_getElem?_getD, List.getElem?_eq_getElem hi]
  have hx := fun j (hj : j < 6) u hu => h.cell (j := i * 6 + j) (v := u) (by rw [h6 j hj]; exact hu)
  exact ⟨hx 0 (by omega) _ rfl, hx 1 (by omega) _ rfl, hx 2 (by omega) _ rfl, hx 3 (by omega) _ rfl, hx 4 (by omega) _ rfl, hx 5 (by omega) _ rfl⟩

/-- a class's cells -/
theorem gcls_cells {w : World} {g : Nat} {cs : List GCls} (hc : ∀ j u, (cs.flatMap gclsCells)[j]? = some u → w.cell? ⟨g, j, none⟩ = some u) (i : Nat) (hi : i < cs.length) :
    w.cell? ⟨g, i * 3, none⟩ = some (.int .i64 (cs.getD i GCls.no).begin_) ∧ w.cell? ⟨g, i * 3 + 1, none⟩ = some (.int .i64 (cs.getD i GCls.no).bytes) ∧ w.cell? ⟨g, i * 3 + 2, none⟩ = some (.slice (some ⟨(cs.getD i GCls.no).sb, 0, none⟩) (cs.getD i GCls.no).slots.length (cs.getD i GCls.no).slots.length) := by
  have h6 : ∀ j, j < 3 → (cs.flatMap gclsCells)[i * 3 + j]? = (gclsCells (cs.getD i GCls.no))[j]? := fun j hj => by
    rw [flat_get gclsCells 3 (fun _ => rfl) cs i j hj, List.getElem?_eq_getElem hi]
    simp [List.getD_eq_getElem?_getD, List.getElem?_eq_getElem hi]
  have hx := fun j (hj : j < 3) u hu => hc (i * 3 + j) u (by rw [h6 j hj]; exact hu)
  exact ⟨hx 0 (by omega) _ rfl, hx 1 (by omega) _ rfl, hx 2 (by omega) _ rfl⟩
end Go.Proofs.Ytjikemhmnkckcab
/- The program's way to find a slot, held against the document's. Plain mathematics. -/
namespace Go.Proofs.Ytjikemhmnkckcab
namespace Cf

/-- class k has the address, by the program -/
def hasB (st : Int) (cls : List (Int × Int)) (addr : Int) (k : Nat) : Bool :=
  decide (16 * gran st cls k ≤ addr) && decide (addr < 16 * gran st cls k + (sl cls k) * (16 * gr cls k))
def cslotFrom (st : Int) (cls : List (Int × Int)) (addr : Int) : Nat → Nat → Int × Int
  | 0, _ => (-1, 0)
  | f + 1, k => if hasB st cls addr k then ((k : Int), (addr - 16 * gran st cls k) / (16 * gr cls k)) else cslotFrom st cls addr f (k + 1)

theorem begin_eq (st : Int) (cls : List (Int × Int)) (k : Nat) (s : Int) : begin_ st cls k s = 16 * gran st cls k + s * (16 * gr cls k) := by
  unfold begin_; rw [Int.mul_add, Int.mul_left_comm]

/-- the slot of an address of the class -/
theorem inS_iff (st : Int) (cls : List (Int × Int)) (addr : Int) (k s : Nat) (hg : 0 < gr cls k) : inS st cls addr k s = true ↔ (addr - 16 * gran st cls k) / (16 * gr cls k) = (s : Int) := by
  simp only [inS, Bool.and_eq_true, decide_eq_true_eq, begin_eq]
  have hw : 0 < 16 * gr cls k := by omega
  generalize 16 * gran st cls k = b at *
  generalize 16 * gr cls k = v at *
  constructor
  · rintro ⟨h1, h2⟩
    have e : addr - b = (addr - b - s * v) + s * v := by omega
    rw [e, Int.add_mul_ediv_right _ _ (by omega), Int.ediv_eq_zero_of_lt (by omega) (by omega)]; omega
  · intro h
    have h1 := Int.mul_ediv_add_emod (addr - b) v
    have h2 := Int.emod_nonneg (addr - b) (show v ≠ 0 by omega)
    have h3 := Int.emod_lt_of_pos (addr - b) hw
    rw [h, Int.mul_comm] at h1
    omega

theorem firstFrom_one (p : Nat → Bool) (s f i : Nat) (h1 : i ≤ s) (h2 : s < i + f) (hp : p s = true) (hn : ∀ j, i ≤ j → j < s → p j = false) : Ref.firstFrom p f i = s := by
  induction f generalizing i with
  | zero => omega
  | succ f ih =>
    simp only [Ref.firstFrom]
    by_cases e : i = s
    · subst e; rw [if_pos hp]
    · rw [if_neg (by rw [hn i (by omega) (by omega)]; simp)]
      exact ih (i + 1) (by omega) (by omega) (fun j h3 h4 => hn j (by omega) h4)
theorem firstFrom_none (p : Nat → Bool) (f i : Nat) (hn : ∀ j, i ≤ j → j < i + f → p j = false) : Ref.firstFrom p f i = -1 := by
  induction f generalizing i with
  | zero => rfl
  | succ f ih =>
    simp only [Ref.firstFrom]
    rw [if_neg (by rw [hn i (by omega) (by omega)]; simp)]
    exact ih (i + 1) (fun j h3 h4 => hn j (by omega) (by omega))

theorem slotIn_eq (st : Int) (cls : List (Int × Int)) (addr : Int) (k : Nat) (hg : 0 < gr cls k) (hs : 0 ≤ sl cls k) :
    slotIn st cls addr k = if hasB st cls addr k then (addr - 16 * gran st cls k) / (16 * gr cls k) else -1 := by
  have hw : 0 < 16 * gr cls k := by omega
  unfold slotIn
  by_cases h : hasB st cls addr k = true
  · rw [if_pos h]
    simp only [hasB, Bool.and_eq_true, decide_eq_true_eq] at h
    have h0 : 0 ≤ (addr - 16 * gran st cls k) / (16 * gr cls k) := Int.ediv_nonneg (by omega) (by omega)
    have h1 : (addr - 16 * gran st cls k) / (16 * gr cls k) < sl cls k := Int.ediv_lt_of_lt_mul hw (by omega)
    obtain ⟨s, hs'⟩ := Int.eq_ofNat_of_zero_le h0
    rw [hs']
    refine firstFrom_one _ s _ 0 (by omega) (by omega) ((inS_iff st cls addr k s hg).2 hs') (fun j _ hj => ?_)
    cases e : inS st cls addr k j
    · rfl
    · have := (inS_iff st cls addr k j hg).1 e; omega
  · rw [if_neg h]
    refine firstFrom_none _ _ _ (fun j _ hj => ?_)
    cases e : inS st cls addr k j
    · rfl
    · exfalso
      apply h
      simp only [inS, Bool.and_eq_true, decide_eq_true_eq, begin_eq] at e
      simp only [hasB, Bool.and_eq_true, decide_eq_true_eq]
      have h2 : (j : Int) * (16 * gr cls k) + (16 * gr cls k) ≤ sl cls k * (16 * gr cls k) := by
        have : ((j : Int) + 1) * (16 * gr cls k) ≤ sl cls k * (16 * gr cls k) := Int.mul_le_mul_of_nonneg_right (by omega) (by omega)
        rw [Int.add_mul] at this; omega
      have h3 : 0 ≤ (j : Int) * (16 * gr cls k) := Int.mul_nonneg (by omega) (by omega)
      omega

theorem cslot_eq {st rest : Int} {cls : List (Int × Int)} (hv : Valid st rest cls) (addr : Int) (f k : Nat) (h : k + f ≤ cls.length) :
    slotFrom st cls addr f k = if (cslotFrom st cls addr f k).1 < 0 then (-1, -1) else cslotFrom st cls addr f k := by
  induction f generalizing k with
  | zero => rfl
  | succ f ih =>
    have hg := hv.g0 k (by omega)
    have hs := hv.s0 k (by omega)
    have hi := slotIn_eq st cls addr k (by omega) (by omega)
    by_cases hh : hasB st cls addr k = true
    · have h0 : 0 ≤ (addr - 16 * gran st cls k) / (16 * gr cls k) := by
        simp only [hasB, Bool.and_eq_true, decide_eq_true_eq] at hh
        exact Int.ediv_nonneg (by omega) (by omega)
      rw [if_pos hh] at hi
      have e1 : cslotFrom st cls addr (f + 1) k = ((k : Int), (addr - 16 * gran st cls k) / (16 * gr cls k)) := if_pos hh
      have e2 : slotFrom st cls addr (f + 1) k = ((k : Int), slotIn st cls addr k) := if_pos (by omega)
      rw [e1, e2, hi, if_neg (by simp)]
    · rw [if_neg hh] at hi
      have e1 : cslotFrom st cls addr (f + 1) k = cslotFrom st cls addr f (k + 1) := if_neg hh
      have e2 : slotFrom st cls addr (f + 1) k = slotFrom st cls addr f (k + 1) := if_neg (by omega)
      rw [e1, e2]
      exact ih (k + 1) (by omega)

/-- the program's slotAt -/
def cslot (st : Int) (cls : List (Int × Int)) (addr : Int) : Int × Int := cslotFrom st cls addr cls.length 0
theorem cslot_no {st rest : Int} {cls : List (Int × Int)} (hv : Valid st rest cls) (addr : Int) (h : slot st cls addr = (-1, -1)) : cslot st cls addr = (-1, 0) := by
  have e := cslot_eq hv addr cls.length 0 (by omega)
  have hx : ∀ f k, (cslotFrom st cls addr f k).1 < 0 → cslotFrom st cls addr f k = (-1, 0) := by
    intro f
    induction f with
    | zero => intro k _; rfl
    | succ f ih =>
      intro k hk
      simp only [cslotFrom] at hk ⊢
      split
      · rename_i hh; rw [if_pos hh] at hk; simp at hk; omega
      · rename_i hh; rw [if_neg hh] at hk; exact ih _ hk
  unfold slot at h
  unfold cslot
  rw [h] at e
  by_cases h1 : (cslotFrom st cls addr cls.length 0).1 < 0
  · exact hx _ _ h1
  · rw [if_neg h1] at e; rw [← e] at h1; simp at h1
theorem cslot_yes {st rest : Int} {cls : List (Int × Int)} (hv : Valid st rest cls) (addr : Int) (i j : Nat) (h : slot st cls addr = ((i : Int), (j : Int))) : cslot st cls addr = ((i : Int), (j : Int)) := by
  have e := cslot_eq hv addr cls.length 0 (by omega)
  unfold slot at h
  unfold cslot
  rw [h] at e
  by_cases h1 : (cslotFrom st cls addr cls.length 0).1 < 0
  · rw [if_pos h1] at e; simp at e
  · rw [if_neg h1] at e; exact e.symm
end Cf
end Go.Proofs.Ytjikemhmnkckcab
