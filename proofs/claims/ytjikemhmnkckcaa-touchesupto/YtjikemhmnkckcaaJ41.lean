import Derived.Test.YtjikemhmnkckcaaJ40
/- What the document's bytes are behind marks and events. -/
namespace Go.Proofs.Ytjikemhmnkckcaa
open Go.RowKit

namespace Ref
theorem byteTo_old (marks : List (Int × Int × Int)) (m : Int × Int × Int) (addr since : Int) (n : Nat) (h : n ≤ marks.length) : byteTo (marks ++ [m]) addr since n = byteTo marks addr since n := by
  induction n with
  | zero => rfl
  | succ n ih =>
    have e : (marks ++ [m]).getD n mkNo = marks.getD n mkNo := by
      simp [List.getD_eq_getElem?_getD, List.getElem?_append_left (show n < marks.length by omega)]
    simp only [byteTo, e, ih (by omega)]
theorem byteTo_snoc (marks : List (Int × Int × Int)) (m : Int × Int × Int) (addr since : Int) :
    byteTo (marks ++ [m]) addr since (marks ++ [m]).length = if m.1 = addr ∧ since ≤ m.2.2 then m.2.1 else byteTo marks addr since marks.length := by
  rw [show (marks ++ [m]).length = marks.length + 1 by simp]
  have e : (marks ++ [m]).getD marks.length mkNo = m := by simp
  simp only [byteTo, e, byteTo_old marks m addr since marks.length (Nat.le_refl _)]
theorem sinceAt_hi (st : Int) (cls : List (Int × Int)) (log : List Ev) (addr : Int) : sinceAt st cls log addr ≤ log.length := by
  unfold sinceAt
  split
  · omega
  · have := given_hi log (Cf.slot st cls addr).1 (Cf.slot st cls addr).2; omega
theorem byteTo_none (marks : List (Int × Int × Int)) (addr since : Int) (n : Nat) (h : ∀ i, i < n → (marks.getD i mkNo).2.2 < since) : byteTo marks addr since n = 0 := by
  induction n with
  | zero => rfl
  | succ n ih =>
    simp only [byteTo]
    rw [if_neg (fun x => by have := h n (by omega); omega)]
    exact ih fun i hi => h i (by omega)
theorem byteTo_bd (marks : List (Int × Int × Int)) (addr since : Int) (n : Nat) (h : ∀ i, i < n → 0 ≤ (marks.getD i mkNo).2.1 ∧ (marks.getD i mkNo).2.1 ≤ 255) : 0 ≤ byteTo marks addr since n ∧ byteTo marks addr since n ≤ 255 := by
  induction n with
  | zero => simp [byteTo]
  | succ n ih =>
    simp only [byteTo]
    split
    · exact h n (by omega)
    · exact ih fun i hi => h i (by omega)
end Ref

/-- of the marks: bytes, and none is later than the last event -/
structure MarksOk (R : RSt) : Prop where
  byte : ∀ i, i < R.marks.length → 0 ≤ (R.marks.getD i mkNo).2.1 ∧ (R.marks.getD i mkNo).2.1 ≤ 255
  when_ : ∀ i, i < R.marks.length → (R.marks.getD i mkNo).2.2 ≤ R.log.length

theorem MarksOk.byte_bd {R : RSt} (h : MarksOk R) (addr : Int) : 0 ≤ R.byte addr ∧ R.byte addr ≤ 255 := Ref.byteTo_bd _ _ _ _ h.byte
theorem MarksOk.mark {R : RSt} (h : MarksOk R) (a b : Int) (b0 : 0 ≤ b) (b1 : b ≤ 255) : MarksOk (R.mark a b) := by
  have key : ∀ i, i < (R.mark a b).marks.length → (R.mark a b).marks.getD i mkNo = R.marks.getD i mkNo ∧ i < R.marks.length ∨ (R.mark a b).marks.getD i mkNo = (a, b, (R.log.length : Int)) := by
    intro i hi
    have hl : (R.mark a b).marks.length = R.marks.length + 1 := by simp [RSt.mark]
    by_cases e : i < R.marks.length
    · left
      refine ⟨?_, e⟩
      simp [RSt.mark, List.getD_eq_getElem?_getD, List.getElem?_append_left e]
    · right
      obtain rfl : i = R.marks.length := by omega
      simp [RSt.mark]
  refine ⟨fun i hi => ?_, fun i hi => ?_⟩
  · rcases key i hi with ⟨e, hl⟩ | e
    · rw [e]; exact h.byte i hl
    · rw [e]; exact ⟨b0, b1⟩
  · rcases key i hi with ⟨e, hl⟩ | e
    · rw [e]; exact h.when_ i hl
    · rw [e]; exact Int.le_refl _
theorem MarksOk.event {R : RSt} (h : MarksOk R) (e : Ref.Ev) : MarksOk ⟨R.st, R.rest, R.cls, R.log ++ [e], R.marks⟩ :=
  ⟨h.byte, fun i hi => by
    have := h.when_ i hi
    have hl : (R.log ++ [e]).length = R.log.length + 1 := by simp
    show (R.marks.getD i mkNo).2.2 ≤ ((R.log ++ [e]).length : Int)
    rw [hl]; omega⟩

/-- a byte that was written -/
theorem RSt.mark_byte (R : RSt) (a b addr : Int) : (R.mark a b).byte addr = if addr = a then b else R.byte addr := by
  show Ref.byteTo (R.marks ++ [(a, b, (R.log.length : Int))]) addr (Ref.sinceAt R.st R.cls R.log addr) (R.marks ++ [(a, b, (R.log.length : Int))]).length = _
  rw [Ref.byteTo_snoc]
  have hs := Ref.sinceAt_hi R.st R.cls R.log addr
  by_cases h : addr = a
  · rw [if_pos ⟨h.symm, hs⟩, if_pos h]
  · rw [if_neg (fun x => h x.1.symm), if_neg h]; rfl

theorem RSt.stores_byte (R : RSt) (a value : Int) (n : Nat) (addr : Int) : (R.stores a value n).byte addr = if a ≤ addr ∧ addr < a + n then Ref.stV value (addr - a).toNat % 256 else R.byte addr := by
  induction n with
  | zero => rw [if_neg (by omega)]; rfl
  | succ n ih =>
    show ((R.stores a value n).mark (a + n) (Ref.stV value n % 256)).byte addr = _
    rw [RSt.mark_byte, ih]
    by_cases h : addr = a + n
    · rw [if_pos h, if_pos (by omega), show (addr - a).toNat = n by omega]
    · rw [if_neg h]
      by_cases h2 : a ≤ addr ∧ addr < a + n
      · rw [if_pos h2, if_pos (by omega)]
      · rw [if_neg h2, if_neg (by omega)]
theorem RSt.moves_byte (R : RSt) (a b : Int) (n : Nat) (addr : Int) : (R.moves a b n).byte addr = if a ≤ addr ∧ addr < a + n then R.byte (b + (addr - a)) else R.byte addr := by
  induction n with
  | zero => rw [if_neg (by omega)]; rfl
  | succ n ih =>
    show ((R.moves a b n).mark (a + n) (R.byte (b + n))).byte addr = _
    rw [RSt.mark_byte, ih]
    by_cases h : addr = a + n
    · rw [if_pos h, if_pos (by omega), show b + (addr - a) = b + n by omega]
    · rw [if_neg h]
      by_cases h2 : a ≤ addr ∧ addr < a + n
      · rw [if_pos h2, if_pos (by omega)]
      · rw [if_neg h2, if_neg (by omega)]
/-- .. where what is read and what is written lie apart -/
theorem RSt.copies_byte (R : RSt) (a b : Int) (n : Nat) (hd : b + n ≤ a ∨ a + n ≤ b) (addr : Int) : (R.copies a b n).byte addr = if a ≤ addr ∧ addr < a + n then R.byte (b + (addr - a)) else R.byte addr := by
  induction n generalizing addr with
  | zero => rw [if_neg (by omega)]; rfl
  | succ n ih =>
    have ih' := ih (by omega)
    show ((R.copies a b n).mark (a + n) ((R.copies a b n).byte (b + n))).byte addr = _
    rw [RSt.mark_byte, ih', ih', if_neg (show ¬ (a ≤ b + n ∧ b + n < a + n) by omega)]
    by_cases h : addr = a + n
    · rw [if_pos h, if_pos (by omega), show b + (addr - a) = b + n by omega]
    · rw [if_neg h]
      by_cases h2 : a ≤ addr ∧ addr < a + n
      · rw [if_pos h2, if_pos (by omega)]
      · rw [if_neg h2, if_neg (by omega)]

/-- a block is given out of the slot: noughts -/
theorem RSt.byte_gives {R : RSt} (h : MarksOk R) (e : Ref.Ev) (addr : Int) (hk : 0 ≤ (Cf.slot R.st R.cls addr).1) (hg : e.gives (Cf.slot R.st R.cls addr).1 (Cf.slot R.st R.cls addr).2 = true) :
    RSt.byte ⟨R.st, R.rest, R.cls, R.log ++ [e], R.marks⟩ addr = 0 := by
  show Ref.byteTo R.marks addr (Ref.sinceAt R.st R.cls (R.log ++ [e]) addr) R.marks.length = 0
  refine Ref.byteTo_none _ _ _ _ fun i hi => ?_
  have := h.when_ i hi
  unfold Ref.sinceAt
  rw [if_neg (by omega), Ref.given_snoc, if_pos hg]
  omega
/-- any other event leaves the byte -/
theorem RSt.byte_event (R : RSt) (e : Ref.Ev) (addr : Int) (hg : 0 ≤ (Cf.slot R.st R.cls addr).1 → e.gives (Cf.slot R.st R.cls addr).1 (Cf.slot R.st R.cls addr).2 = false) :
    RSt.byte ⟨R.st, R.rest, R.cls, R.log ++ [e], R.marks⟩ addr = R.byte addr := by
  show Ref.byteTo R.marks addr (Ref.sinceAt R.st R.cls (R.log ++ [e]) addr) R.marks.length = Ref.byteTo R.marks addr (Ref.sinceAt R.st R.cls R.log addr) R.marks.length
  congr 1
  unfold Ref.sinceAt
  by_cases hk : (Cf.slot R.st R.cls addr).1 < 0
  · rw [if_pos hk, if_pos hk]
  · rw [if_neg hk, if_neg hk, Ref.given_snoc, if_neg (by rw [hg (by omega)]; decide)]
end Go.Proofs.Ytjikemhmnkckcaa
