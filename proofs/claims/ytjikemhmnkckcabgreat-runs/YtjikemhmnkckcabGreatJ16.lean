import Derived.Test.YtjikemhmnkckcabGreatJ15
import Derived.Test.YtjikemhmnkckcabGreatJ13
import Derived.Laws.BitsLemmas
import Derived.Laws.CopyOwn
/- What the document's bytes are behind marks and events. -/
namespace Go.Proofs.YtjikemhmnkckcabGreat
open Go.RowKit

namespace Ref
theorem byteTo_old (marks : List (Int × Int × Int)) (m : Int × Int × Int) (addr since : Int) (n : Nat) (h : n ≤ marks.length) : byteTo (marks ++ [m]) addr since n = byteTo marks addr since n := by
  induction n with
  | zero => rfl
  | succ n ih =>
    have e : (marks ++ [m]).getD n mkNo = marks.getD n mkNo := by
      simp [List.getD_eq_getElem?_getD, List.getElem?_append_left (show n < marks.length by omega)]
    simp only [byteTo, e, ih (by omega)]
theorem byteTo_snoc (marks : List (Int × Int × Int)) (m : Int × Int × Int) (addr since : Int) :
    byteTo (marks ++ [m]) addr since (marks ++ [m]).length = if m.1 = addr ∧ since ≤ m.2.2 then m.2.1 else byteTo marks addr since marks.length := by
  rw [show (marks ++ [m]).length = marks.length + 1 by simp]
  have e : (marks ++ [m]).getD marks.length mkNo = m := by simp
  simp only [byteTo, e, byteTo_old marks m addr since marks.length (Nat.le_refl _)]
theorem sinceAt_hi (st : Int) (cls : List (Int × Int)) (log : List Ev) (addr : Int) : sinceAt st cls log addr ≤ log.length := by
  unfold sinceAt
  split
  · omega
  · have := given_hi log (Cf.slot st cls addr).1 (Cf.slot st cls addr).2; omega
theorem byteTo_none (marks : List (Int × Int × Int)) (addr since : Int) (n : Nat) (h : ∀ i, i < n → (marks.getD i mkNo).2.2 < since) : byteTo marks addr since n = 0 := by
  induction n with
  | zero => rfl
  | succ n ih =>
    simp only [byteTo]
    rw [if_neg (fun x => by have := h n (by omega); omega)]
    exact ih fun i hi => h i (by omega)
theorem byteTo_bd (marks : List (Int × Int × Int)) (addr since : Int) (n : Nat) (h : ∀ i, i < n → 0 ≤ (marks.getD i mkNo).2.1 ∧ (marks.getD i mkNo).2.1 ≤ 255) : 0 ≤ byteTo marks addr since n ∧ byteTo marks addr since n ≤ 255 := by
  induction n with
  | zero => simp [byteTo]
  | succ n ih =>
    simp only [byteTo]
    split
    · exact h n (by omega)
    · exact ih fun i hi => h i (by omega)
end Ref

/-- of the marks: bytes, and none is later than the last event -/
structure MarksOk (R : RSt) : Prop where
  byte : ∀ i, i < R.marks.length → 0 ≤ (R.marks.getD i mkNo).2.1 ∧ (R.marks.getD i mkNo).2.1 ≤ 255
  when_ : ∀ i, i < R.marks.length → (R.marks.getD i mkNo).2.2 ≤ R.log.length

theorem MarksOk.byte_bd {R : RSt} (h : MarksOk R) (addr : Int) : 0 ≤ R.byte addr ∧ R.byte addr ≤ 255 := Ref.byteTo_bd _ _ _ _ h.byte
theorem MarksOk.mark {R : RSt} (h : MarksOk R) (a b : Int) (b0 : 0 ≤ b) (b1 : b ≤ 255) : MarksOk (R.mark a b) := by
  have key : ∀ i, i < (R.mark a b).marks.length → (R.mark a b).marks.getD i mkNo = R.marks.getD i mkNo ∧ i < R.marks.length ∨ (R.mark a b).marks.getD i mkNo = (a, b, (R.log.length : Int)) := by
    intro i hi
    have hl : (R.mark a b).marks.length = R.marks.length + 1 := by simp [RSt.mark]
    by_cases e : i < R.marks.length
    · left
      refine ⟨?_, e⟩
      simp [RSt.mark, List.getD_eq_getElem?_getD, List.getElem?_append_left e]
    · right
      obtain rfl : i = R.marks.length := by omega
      simp [RSt.mark]
  refine ⟨fun i hi => ?_, fun i hi => ?_⟩
  · rcases key i hi with ⟨e, hl⟩ | e
    · rw [e]; exact h.byte i hl
    · rw [e]; exact ⟨b0, b1⟩
  · rcases key i hi with ⟨e, hl⟩ | e
    · rw [e]; exact h.when_ i hl
    · rw [e]; exact Int.le_refl _
theorem MarksOk.event {R : RSt} (h : MarksOk R) (e : Ref.Ev) : MarksOk ⟨R.st, R.rest, R.cls, R.log ++ [e], R.marks⟩ :=
  ⟨h.byte, fun i hi => by
    have := h.when_ i hi
    have hl : (R.log ++ [e]).length = R.log.length + 1 := by simp
    show (R.marks.getD i mkNo).2.2 ≤ ((R.log ++ [e]).length : Int)
    rw [hl]; omega⟩

/-- a byte that was written -/
theorem RSt.mark_byte (R : RSt) (a b addr : Int) : (R.mark a b).byte addr = if addr = a then b else R.byte addr := by
  show Ref.byteTo (R.marks ++ [(a, b, (R.log.length : Int))]) addr (Ref.sinceAt R.st R.cls R.log addr) (R.marks ++ [(a, b, (R.log.length : Int))]).length = _
  rw [Ref.byteTo_snoc]
  have hs := Ref.sinceAt_hi R.st R.cls R.log addr
  by_cases h : addr = a
  · rw [if_pos ⟨h.symm, hs⟩, if_pos h]
  · rw [if_neg (fun x => h x.1.symm), if_neg h]; rfl

theorem RSt.stores_byte (R : RSt) (a value : Int) (n : Nat) (addr : Int) : (R.stores a value n).byte addr = if a ≤ addr ∧ addr < a + n then Ref.stV value (addr - a).toNat % 256 else R.byte addr := by
  induction n with
  | zero => rw [if_neg (by omega)]; rfl
  | succ n ih =>
    show ((R.stores a value n).mark (a + n) (Ref.stV value n % 256)).byte addr = _
    rw [RSt.mark_byte, ih]
    by_cases h : addr = a + n
    · rw [if_pos h, if_pos (by omega), show (addr - a).toNat = n by omega]
    · rw [if_neg h]
      by_cases h2 : a ≤ addr ∧ addr < a + n
      · rw [if_pos h2, if_pos (by omega)]
      · rw [if_neg h2, if_neg (by omega)]
theorem RSt.moves_byte (R : RSt) (a b : Int) (n : Nat) (addr : Int) : (R.moves a b n).byte addr = if a ≤ addr ∧ addr < a + n then R.byte (b + (addr - a)) else R.byte addr := by
  induction n with
  | zero => rw [if_neg (by omega)]; rfl
  | succ n ih =>
    show ((R.moves a b n).mark (a + n) (R.byte (b + n))).byte addr = _
    rw [RSt.mark_byte, ih]
    by_cases h : addr = a + n
    · rw [if_pos h, if_pos (by omega), show b + (addr - a) = b + n by omega]
    · rw [if_neg h]
      by_cases h2 : a ≤ addr ∧ addr < a + n
      · rw [if_pos h2, if_pos (by omega)]
      · rw [if_neg h2, if_neg (by omega)]
/-- .. where what is read and what is written lie apart -/
theorem RSt.copies_byte (R : RSt) (a b : Int) (n : Nat) (hd : b + n ≤ a ∨ a + n ≤ b) (addr : Int) : (R.copies a b n).byte addr = if a ≤ addr ∧ addr < a + n then R.byte (b + (addr - a)) else R.byte addr := by
  induction n generalizing addr with
  | zero => rw [if_neg (by omega)]; rfl
  | succ n ih =>
    have ih' := ih (by omega)
    show ((R.copies a b n).mark (a + n) ((R.copies a b n).byte (b + n))).byte addr = _
    rw [RSt.mark_byte, ih', ih', if_neg (show ¬ (a ≤ b + n ∧ b + n < a + n) by omega)]
    by_cases h : addr = a + n
    · rw [if_pos h, if_pos (by omega), show b + (addr - a) = b + n by omega]
    · rw [if_neg h]
      by_cases h2 : a ≤ addr ∧ addr < a + n
      · rw [if_pos h2, if_pos (by omega)]
      · rw [if_neg h2, if_neg (by omega)]

/-- a block is given out of the slot: noughts -/
theorem RSt.byte_gives {R : RSt} (h : MarksOk R) (e : Ref.Ev) (addr : Int) (hk : 0 ≤ (Cf.slot R.st R.cls addr).1) (hg : e.gives (Cf.slot R.st R.cls addr).1 (Cf.slot R.st R.cls addr).2 = true) :
    RSt.byte ⟨R.st, R.rest, R.cls, R.log ++ [e], R.marks⟩ addr = 0 := by
  show Ref.byteTo R.marks addr (Ref.sinceAt R.st R.cls (R.log ++ [e]) addr) R.marks.length = 0
  refine Ref.byteTo_none _ _ _ _ fun i hi => ?_
  have := h.when_ i hi
  unfold Ref.sinceAt
  rw [if_neg (by omega), Ref.given_snoc, if_pos hg]
  omega
/-- any other event leaves the byte -/
theorem RSt.byte_event (R : RSt) (e : Ref.Ev) (addr : Int) (hg : 0 ≤ (Cf.slot R.st R.cls addr).1 → e.gives (Cf.slot R.st R.cls addr).1 (Cf.slot R.st R.cls addr).2 = false) :
    RSt.byte ⟨R.st, R.rest, R.cls, R.log ++ [e], R.marks⟩ addr = R.byte addr := by
  show Ref.byteTo R.marks addr (Ref.sinceAt R.st R.cls (R.log ++ [e]) addr) R.marks.length = Ref.byteTo R.marks addr (Ref.sinceAt R.st R.cls R.log addr) R.marks.length
  congr 1
  unfold Ref.sinceAt
  by_cases hk : (Cf.slot R.st R.cls addr).1 < 0
  · rw [if_pos hk, if_pos hk]
  · rw [if_neg hk, if_neg hk, Ref.given_snoc, if_neg (by rw [hg (by omega)]; decide)]
end Go.Proofs.YtjikemhmnkckcabGreat
/- What the program reads and writes as a number. Plain mathematics. -/
namespace Go.Proofs.YtjikemhmnkckcabGreat
open Go.RowKit

theorem or_i64 (x b : Int) (hx : x % 256 = 0) (b0 : 0 ≤ b) (b1 : b < 256) : bits .or .i64 x b = wrap64 (x + b) := by
  show IntKind.i64.wrap (((BitVec.ofInt 64 x ||| BitVec.ofInt 64 b).toNat : Nat) : Int) = _
  rw [BitVec.toNat_or, BitVec.toNat_ofInt, BitVec.toNat_ofInt]
  have hA : (x % ((2 ^ 64 : Nat) : Int)).toNat = 2 ^ 8 * (x % 18446744073709551616 / 256).toNat := by omega
  have hB : (b % ((2 ^ 64 : Nat) : Int)).toNat < 2 ^ 8 := by omega
  rw [hA, ← Nat.two_pow_add_eq_or_of_lt hB, IntKind.wrap_i64]
  unfold wrap64
  omega

/-- the number of m bytes, those behind first -/
def gnum (b : Nat → Int) (n : Nat) : Nat → Int
  | 0 => 0
  | m + 1 => wrap64 (wrap64 (gnum b n m * 256) + b (n - 1 - m))
theorem wrap64_in (x : Int) (h0 : -9223372036854775808 ≤ x) (h1 : x ≤ 9223372036854775807) : wrap64 x = x := by unfold wrap64; omega
set_option maxHeartbeats 1000000 in
theorem gnum_ld (byte : Int → Int) (b : Nat → Int) (a : Int) (n : Nat) (hb : ∀ i, i < n → byte (a + (i : Int)) = b i ∧ 0 ≤ b i ∧ b i ≤ 255) (hn : n = 1 ∨ n = 2 ∨ n = 4 ∨ n = 8) : gnum b n n = Ref.ldV byte a n := by
  have us : ∀ i, Ref.ldU (i + 1) = wrap64 (Ref.ldU i * 256) := fun _ => rfl
  have u0 : Ref.ldU 0 = 1 := rfl
  have u1 : Ref.ldU 1 = 256 := by rw [us, u0]; unfold wrap64; omega
  have u2 : Ref.ldU 2 = 65536 := by rw [us, u1]; unfold wrap64; omega
  have u3 : Ref.ldU 3 = 16777216 := by rw [us, u2]; unfold wrap64; omega
  have u4 : Ref.ldU 4 = 4294967296 := by rw [us, u3]; unfold wrap64; omega
  have u5 : Ref.ldU 5 = 1099511627776 := by rw [us, u4]; unfold wrap64; omega
  have u6 : Ref.ldU 6 = 281474976710656 := by rw [us, u5]; unfold wrap64; omega
  have u7 : Ref.ldU 7 = 72057594037927936 := by rw [us, u6]; unfold wrap64; omega
  have gs : ∀ m, gnum b n (m + 1) = wrap64 (wrap64 (gnum b n m * 256) + b (n - 1 - m)) := fun _ => rfl
  have ls : ∀ m, Ref.ldV byte a (m + 1) = wrap64 (Ref.ldV byte a m + wrap64 (byte (a + (m : Int)) * Ref.ldU m)) := fun _ => rfl
  have g0 : gnum b n 0 = 0 := rfl
  have l0 : Ref.ldV byte a 0 = 0 := rfl
  rcases hn with rfl | rfl | rfl | rfl
  · have := hb 0 (by omega)
    rw [gs 0, ls 0, g0, l0, this.1, u0]
    simp only [show 1 - 1 - 0 = 0 from rfl]
    generalize b 0 = x0 at *
    unfold wrap64; omega
  · have h0 := hb 0 (by omega)
    have h1 := hb 1 (by omega)
    rw [gs 1, gs 0, ls 1, ls 0, g0, l0, h0.1, h1.1, u0, u1]
    simp only [show 2 - 1 - 1 = 0 from rfl, show 2 - 1 - 0 = 1 from rfl]
    generalize b 0 = x0 at *
    generalize b 1 = x1 at *
    unfold wrap64; omega
  · have h0 := hb 0 (by omega)
    have h1 := hb 1 (by omega)
    have h2 := hb 2 (by omega)
    have h3 := hb 3 (by omega)
    have e1 : gnum b 4 1 = b 3 := by rw [gs 0, g0]; show wrap64 (wrap64 (0 * 256) + b 3) = _; rw [wrap64_in (0 * 256) (by omega) (by omega), wrap64_in _ (by omega) (by omega)]; omega
    have e2 : gnum b 4 2 = b 3 * 256 + b 2 := by rw [gs 1, e1]; show wrap64 (wrap64 (b 3 * 256) + b 2) = _; rw [wrap64_in (b 3 * 256) (by omega) (by omega), wrap64_in _ (by omega) (by omega)]
    have e3 : gnum b 4 3 = b 3 * 65536 + b 2 * 256 + b 1 := by rw [gs 2, e2]; show wrap64 (wrap64 ((b 3 * 256 + b 2) * 256) + b 1) = _; rw [wrap64_in ((b 3 * 256 + b 2) * 256) (by omega) (by omega), wrap64_in _ (by omega) (by omega)]; omega
    have e4 : gnum b 4 4 = b 3 * 16777216 + b 2 * 65536 + b 1 * 256 + b 0 := by rw [gs 3, e3]; show wrap64 (wrap64 ((b 3 * 65536 + b 2 * 256 + b 1) * 256) + b 0) = _; rw [wrap64_in ((b 3 * 65536 + b 2 * 256 + b 1) * 256) (by omega) (by omega), wrap64_in _ (by omega) (by omega)]; omega
    have f1 : Ref.ldV byte a 1 = b 0 := by rw [ls 0, l0, h0.1, u0, wrap64_in (b 0 * 1) (by omega) (by omega), wrap64_in _ (by omega) (by omega)]; omega
    have f2 : Ref.ldV byte a 2 = b 0 + b 1 * 256 := by rw [ls 1, f1, h1.1, u1, wrap64_in (b 1 * 256) (by omega) (by omega), wrap64_in _ (by omega) (by omega)]
    have f3 : Ref.ldV byte a 3 = b 0 + b 1 * 256 + b 2 * 65536 := by rw [ls 2, f2, h2.1, u2, wrap64_in (b 2 * 65536) (by omega) (by omega), wrap64_in _ (by omega) (by omega)]
    have f4 : Ref.ldV byte a 4 = b 0 + b 1 * 256 + b 2 * 65536 + b 3 * 16777216 := by rw [ls 3, f3, h3.1, u3, wrap64_in (b 3 * 16777216) (by omega) (by omega), wrap64_in _ (by omega) (by omega)]
    rw [e4, f4]; omega
  · have h0 := hb 0 (by omega)
    have h1 := hb 1 (by omega)
    have h2 := hb 2 (by omega)
    have h3 := hb 3 (by omega)
    have h4 := hb 4 (by omega)
    have h5 := hb 5 (by omega)
    have h6 := hb 6 (by omega)
    have h7 := hb 7 (by omega)
    have e1 : gnum b 8 1 = b 7 := by rw [gs 0, g0]; show wrap64 (wrap64 (0 * 256) + b 7) = _; rw [wrap64_in (0 * 256) (by omega) (by omega), wrap64_in _ (by omega) (by omega)]; omega
    have e2 : gnum b 8 2 = b 7 * 256 + b 6 := by rw [gs 1, e1]; show wrap64 (wrap64 (b 7 * 256) + b 6) = _; rw [wrap64_in (b 7 * 256) (by omega) (by omega), wrap64_in _ (by omega) (by omega)]
    have e3 : gnum b 8 3 = b 7 * 65536 + b 6 * 256 + b 5 := by rw [gs 2, e2]; show wrap64 (wrap64 ((b 7 * 256 + b 6) * 256) + b 5) = _; rw [wrap64_in ((b 7 * 256 + b 6) * 256) (by omega) (by omega), wrap64_in _ (by omega) (by omega)]; omega
    have e4 : gnum b 8 4 = b 7 * 16777216 + b 6 * 65536 + b 5 * 256 + b 4 := by rw [gs 3, e3]; show wrap64 (wrap64 ((b 7 * 65536 + b 6 * 256 + b 5) * 256) + b 4) = _; rw [wrap64_in ((b 7 * 65536 + b 6 * 256 + b 5) * 256) (by omega) (by omega), wrap64_in _ (by omega) (by omega)]; omega
    have e5 : gnum b 8 5 = b 7 * 4294967296 + b 6 * 16777216 + b 5 * 65536 + b 4 * 256 + b 3 := by rw [gs 4, e4]; show wrap64 (wrap64 ((b 7 * 16777216 + b 6 * 65536 + b 5 * 256 + b 4) * 256) + b 3) = _; rw [wrap64_in ((b 7 * 16777216 + b 6 * 65536 + b 5 * 256 + b 4) * 256) (by omega) (by omega), wrap64_in _ (by omega) (by omega)]; omega
    have e6 : gnum b 8 6 = b 7 * 1099511627776 + b 6 * 4294967296 + b 5 * 16777216 + b 4 * 65536 + b 3 * 256 + b 2 := by rw [gs 5, e5]; show wrap64 (wrap64 ((b 7 * 4294967296 + b 6 * 16777216 + b 5 * 65536 + b 4 * 256 + b 3) * 256) + b 2) = _; rw [wrap64_in ((b 7 * 4294967296 + b 6 * 16777216 + b 5 * 65536 + b 4 * 256 + b 3) * 256) (by omega) (by omega), wrap64_in _ (by omega) (by omega)]; omega
    have e7 : gnum b 8 7 = b 7 * 281474976710656 + b 6 * 1099511627776 + b 5 * 4294967296 + b 4 * 16777216 + b 3 * 65536 + b 2 * 256 + b 1 := by rw [gs 6, e6]; show wrap64 (wrap64 ((b 7 * 1099511627776 + b 6 * 4294967296 + b 5 * 16777216 + b 4 * 65536 + b 3 * 256 + b 2) * 256) + b 1) = _; rw [wrap64_in ((b 7 * 1099511627776 + b 6 * 4294967296 + b 5 * 16777216 + b 4 * 65536 + b 3 * 256 + b 2) * 256) (by omega) (by omega), wrap64_in _ (by omega) (by omega)]; omega
    have f1 : Ref.ldV byte a 1 = b 0 := by rw [ls 0, l0, h0.1, u0, wrap64_in (b 0 * 1) (by omega) (by omega), wrap64_in _ (by omega) (by omega)]; omega
    have f2 : Ref.ldV byte a 2 = b 0 + b 1 * 256 := by rw [ls 1, f1, h1.1, u1, wrap64_in (b 1 * 256) (by omega) (by omega), wrap64_in _ (by omega) (by omega)]
    have f3 : Ref.ldV byte a 3 = b 0 + b 1 * 256 + b 2 * 65536 := by rw [ls 2, f2, h2.1, u2, wrap64_in (b 2 * 65536) (by omega) (by omega), wrap64_in _ (by omega) (by omega)]
    have f4 : Ref.ldV byte a 4 = b 0 + b 1 * 256 + b 2 * 65536 + b 3 * 16777216 := by rw [ls 3, f3, h3.1, u3, wrap64_in (b 3 * 16777216) (by omega) (by omega), wrap64_in _ (by omega) (by omega)]
    have f5 : Ref.ldV byte a 5 = b 0 + b 1 * 256 + b 2 * 65536 + b 3 * 16777216 + b 4 * 4294967296 := by rw [ls 4, f4, h4.1, u4, wrap64_in (b 4 * 4294967296) (by omega) (by omega), wrap64_in _ (by omega) (by omega)]
    have f6 : Ref.ldV byte a 6 = b 0 + b 1 * 256 + b 2 * 65536 + b 3 * 16777216 + b 4 * 4294967296 + b 5 * 1099511627776 := by rw [ls 5, f5, h5.1, u5, wrap64_in (b 5 * 1099511627776) (by omega) (by omega), wrap64_in _ (by omega) (by omega)]
    have f7 : Ref.ldV byte a 7 = b 0 + b 1 * 256 + b 2 * 65536 + b 3 * 16777216 + b 4 * 4294967296 + b 5 * 1099511627776 + b 6 * 281474976710656 := by rw [ls 6, f6, h6.1, u6, wrap64_in (b 6 * 281474976710656) (by omega) (by omega), wrap64_in _ (by omega) (by omega)]
    rw [gs 7, e7, ls 7, f7, h7.1, u7]
    show wrap64 (wrap64 _ + b 0) = _
    obtain ⟨S, hS⟩ : ∃ S, S = b 1 + b 2 * 256 + b 3 * 65536 + b 4 * 16777216 + b 5 * 4294967296 + b 6 * 1099511627776 := ⟨_, rfl⟩
    rw [show (b 7 * 281474976710656 + b 6 * 1099511627776 + b 5 * 4294967296 + b 4 * 16777216 + b 3 * 65536 + b 2 * 256 + b 1) * 256 = S * 256 + b 7 * 72057594037927936 by rw [hS]; omega, show b 0 + b 1 * 256 + b 2 * 65536 + b 3 * 16777216 + b 4 * 4294967296 + b 5 * 1099511627776 + b 6 * 281474976710656 = S * 256 + b 0 by rw [hS]; omega]
    clear e1 e2 e3 e4 e5 e6 e7 f1 f2 f3 f4 f5 f6 f7 hS
    generalize b 0 = x0 at *
    generalize b 7 = x7 at *
    unfold wrap64; omega

/-- what is left of the value, by the program -/
def shrV (v : Int) : Nat → Int
  | 0 => v
  | m + 1 => shrV v m / 256
theorem shrV_st (v : Int) (m : Nat) (hm : m < 8) : shrV v m % 256 = Ref.stV v m % 256 := by
  have s0 : Ref.stV v 0 = v % 18446744073709551616 := rfl
  have ss : ∀ i, Ref.stV v (i + 1) = Ref.stV v i / 256 := fun _ => rfl
  have gs : ∀ i, shrV v (i + 1) = shrV v i / 256 := fun _ => rfl
  have g0 : shrV v 0 = v := rfl
  have e1 : Ref.stV v 1 = shrV v 1 % 72057594037927936 := by rw [ss, gs, s0, g0]; omega
  have e2 : Ref.stV v 2 = shrV v 2 % 281474976710656 := by rw [ss, gs, e1]; omega
  have e3 : Ref.stV v 3 = shrV v 3 % 1099511627776 := by rw [ss, gs, e2]; omega
  have e4 : Ref.stV v 4 = shrV v 4 % 4294967296 := by rw [ss, gs, e3]; omega
  have e5 : Ref.stV v 5 = shrV v 5 % 16777216 := by rw [ss, gs, e4]; omega
  have e6 : Ref.stV v 6 = shrV v 6 % 65536 := by rw [ss, gs, e5]; omega
  have e7 : Ref.stV v 7 = shrV v 7 % 256 := by rw [ss, gs, e6]; omega
  rcases (by omega : m = 0 ∨ m = 1 ∨ m = 2 ∨ m = 3 ∨ m = 4 ∨ m = 5 ∨ m = 6 ∨ m = 7) with rfl | rfl | rfl | rfl | rfl | rfl | rfl | rfl
  · rw [s0, g0]; omega
  · rw [e1]; omega
  · rw [e2]; omega
  · rw [e3]; omega
  · rw [e4]; omega
  · rw [e5]; omega
  · rw [e6]; omega
  · rw [e7]; omega
theorem shrV_bd (v : Int) (m : Nat) (h0 : -9223372036854775808 ≤ v) (h1 : v ≤ 9223372036854775807) : -9223372036854775808 ≤ shrV v m ∧ shrV v m ≤ 9223372036854775807 := by
  induction m with
  | zero => exact ⟨h0, h1⟩
  | succ m ih => show _ ≤ shrV v m / 256 ∧ shrV v m / 256 ≤ _; omega
def setTo (mem : List Int) (a : Nat) (v : Int) : Nat → List Int
  | 0 => mem
  | m + 1 => (setTo mem a v m).set (a + m) (shrV v m % 256)
theorem setTo_len (mem : List Int) (a : Nat) (v : Int) (m : Nat) : (setTo mem a v m).length = mem.length := by
  induction m with
  | zero => rfl
  | succ m ih => simp [setTo, ih]
theorem getD_setI (xs : List Int) (i j : Nat) (x : Int) (hi : i < xs.length) : (xs.set i x).getD j 0 = if j = i then x else xs.getD j 0 := by
  simp only [List.getD_eq_getElem?_getD, List.getElem?_set]
  by_cases h : i = j
  · subst h; simp [hi]
  · rw [if_neg h, if_neg (fun e => h e.symm)]
theorem setTo_getD (mem : List Int) (a : Nat) (v : Int) (m : Nat) (h : a + m ≤ mem.length) (x : Nat) : (setTo mem a v m).getD x 0 = if a ≤ x ∧ x < a + m then shrV v (x - a) % 256 else mem.getD x 0 := by
  induction m with
  | zero => rw [if_neg (by omega)]; rfl
  | succ m ih =>
    simp only [setTo]
    rw [getD_setI _ _ _ _ (by rw [setTo_len]; omega), ih (by omega)]
    by_cases h1 : x = a + m
    · rw [if_pos h1, if_pos (by omega), show x - a = m by omega]
    · rw [if_neg h1]
      by_cases h2 : a ≤ x ∧ x < a + m
      · rw [if_pos h2, if_pos (by omega)]
      · rw [if_neg h2, if_neg (by omega)]

/-- bytes from one place are laid over another -/
def copyTo (mem : List Int) (a b n : Nat) : List Int := mem.take a ++ ((mem.drop b).take n ++ mem.drop (a + n))
theorem copyTo_len (mem : List Int) (a b n : Nat) (ha : a + n ≤ mem.length) (hb : b + n ≤ mem.length) : (copyTo mem a b n).length = mem.length := by
  simp [copyTo]; omega
theorem copyTo_getD (mem : List Int) (a b n : Nat) (ha : a + n ≤ mem.length) (hb : b + n ≤ mem.length) (x : Nat) : (copyTo mem a b n).getD x 0 = if a ≤ x ∧ x < a + n then mem.getD (b + (x - a)) 0 else mem.getD x 0 := by
  unfold copyTo
  simp only [List.getD_eq_getElem?_getD]
  have l1 : (mem.take a).length = a := by simp; omega
  have l2 : ((mem.drop b).take n).length = n := by simp; omega
  by_cases h1 : x < a
  · rw [List.getElem?_append_left (by omega), List.getElem?_take, if_pos h1, if_neg (by omega)]
  · rw [List.getElem?_append_right (by omega), l1]
    by_cases h2 : x < a + n
    · rw [List.getElem?_append_left (by omega), List.getElem?_take, if_pos (by omega), List.getElem?_drop, if_pos (by omega)]
    · rw [List.getElem?_append_right (by omega), l2, List.getElem?_drop, if_neg (by omega), show a + n + (x - a - n) = x by omega]
end Go.Proofs.YtjikemhmnkckcabGreat
/- The program's bytes: number, setNumber, copyBytes. -/
namespace Go.Proofs.YtjikemhmnkckcabGreat
open Go.RowKit

set_option maxRecDepth 100000 in
set_option maxHeartbeats 800000 in
theorem accessNumber_any (p : Nat) (vc : Value) (bb : Nat) (G : GSt) (R : RSt) (q n : Int) (w : World) (h : GRep w p vc bb G) (hs : Sim G R) (q1 : q ≤ 9223372036854775807) :
    Calls Tryz.prog 144 #[.pointer (some ⟨p, 0, none⟩), .int .i64 q, .int .i64 n] w fun e w' => e = .returned (.int .i64 (R.storeErr q n)) ∧ Below w.heap.size w w' := by
  have HR := hide2 h
  have HS := hide2 hs
  clear h hs
  cases hsh : Ref.shapeB n
  · have HE : Hid (R.storeErr q n = 2) := if_pos hsh
    have h1 : (n != 1) = true := by rw [bne_iff_ne]; rintro rfl; simp [Ref.shapeB] at hsh
    have h2 : (n != 2) = true := by rw [bne_iff_ne]; rintro rfl; simp [Ref.shapeB] at hsh
    have h4 : (n != 4) = true := by rw [bne_iff_ne]; rintro rfl; simp [Ref.shapeB] at hsh
    have h8 : (n != 8) = true := by rw [bne_iff_ne]; rintro rfl; simp [Ref.shapeB] at hsh
    clear hsh
    go_enter Tryz.func144, Tryz.ntmps144
    go_wp2
    all_goals
      go_ret
      exact ⟨by rw [HE.out]; rfl, Below.refl _ _⟩
  · have HE : Hid (R.storeErr q n = (R.access q n).1) := if_neg (by simp [hsh])
    have hn := shape_of hsh
    clear hsh
    rcases hn with rfl | rfl | rfl | rfl
    all_goals
      go_enter Tryz.func144, Tryz.ntmps144
      go_wp2_with (go_at_call 119; refine (gaccess_any p vc bb G R q _ w HR.out HS.out q1).mono ?_; rintro e2 w2 ⟨rfl, hb2⟩)
      go_ret
      exact ⟨by rw [HE.out]; rfl, hb2⟩

set_option maxRecDepth 100000 in
set_option maxHeartbeats 1600000 in
theorem number_any (p : Nat) (vc : Value) (bb : Nat) (G : GSt) (a n : Nat) (w : World) (h : GRep w p vc bb G) (han : a + n ≤ G.mem.length) (hsm : G.mem.length ≤ 1000000) (hm : ∀ i, i < G.mem.length → 0 ≤ G.mem.getD i 0 ∧ G.mem.getD i 0 ≤ 255) :
    Calls Tryz.prog 145 #[.pointer (some ⟨p, 0, none⟩), .int .i64 (a : Int), .int .i64 (n : Int)] w fun e w' => e = .returned (.int .i64 (gnum (fun i => G.mem.getD (a + i) 0) n n)) ∧ w = w' := by
  have c3 := h.blk.cell (j := 3) rfl
  have hmem := hide2 h.mem
  have HM := hide2 hm
  clear h hm
  go_enter Tryz.func145, Tryz.ntmps145
  go_wp2
  go_loopw [7, 8] (fun v i wr => ∃ m : Nat, m ≤ n ∧ i = .int .i64 ((n : Int) - 1 - (m : Int)) ∧ v = .int .i64 (gnum (fun i => G.mem.getD (a + i) 0) n m) ∧ w = wr) (fun _ i _ => (intOf i + 1).toNat)
  case atStart => exact ⟨0, by omega, by simp, rfl, rfl⟩
  case round =>
    obtain ⟨m, hmn, rfl, rfl, rfl⟩ := hrel
    by_cases hlt : m < n
    · have HN : Hid (gnum (fun i => G.mem.getD (a + i) 0) n (m + 1) = wrap64 (wrap64 (gnum (fun i => G.mem.getD (a + i) 0) n m * 256) + G.mem.getD (a + (n - 1 - m)) 0)) := rfl
      have hb := HM.out (a + (n - 1 - m)) (by omega)
      have b0 := hb.1
      have b1 := hb.2
      have ci := hmem.out.cell (j := a + (n - 1 - m)) (v := .int .u8 (G.mem.getD (a + (n - 1 - m)) 0)) (by rw [List.getElem?_map, List.getElem?_eq_getElem (by omega), List.getD_eq_getElem?_getD, List.getElem?_eq_getElem (by omega)]; rfl)
      have e1 : ((a : Int) + ((n : Int) - 1 - (m : Int))).toNat = a + (n - 1 - m) := by omega
      have i0 : (0 : Int) ≤ (a : Int) + ((n : Int) - 1 - (m : Int)) := by omega
      have i1 : (a : Int) + ((n : Int) - 1 - (m : Int)) < (G.mem.length : Int) := by omega
      have j0 : (0 : Int) ≤ (n : Int) - 1 - (m : Int) := by omega
      have HJ : Hid ((n : Int) - 1 - (m : Int) - 1 = (n : Int) - 1 - ((m + 1 : Nat) : Int)) := by show _ = _; omega
      generalize G.mem.getD (a + (n - 1 - m)) 0 = bt at *
      have HOR := hide2 (or_i64 (wrap64 (gnum (fun i => G.mem.getD (a + i) 0) n m * 256)) bt (by unfold wrap64; omega) b0 (by omega))
      generalize gnum (fun i => G.mem.getD (a + i) 0) n m = vv at *
      clear hb
      go_wp2
      go_roundw
      case rel => exact ⟨m + 1, by omega, by rw [HJ.out], by rw [HOR.out, HN.out], trivial⟩
      case measure => simp [intOf]; omega
    · obtain rfl : m = n := by omega
      go_wp2
      go_ret
      exact ⟨rfl, rfl⟩

set_option maxRecDepth 100000 in
set_option maxHeartbeats 1600000 in
theorem setNumber_any (p : Nat) (vc : Value) (bb : Nat) (G : GSt) (a n : Nat) (v : Int) (w : World) (h : GRep w p vc bb G) (han : a + n ≤ G.mem.length) (hsm : G.mem.length ≤ 1000000) (v0 : -9223372036854775808 ≤ v) (v1 : v ≤ 9223372036854775807) :
    Calls Tryz.prog 147 #[.pointer (some ⟨p, 0, none⟩), .int .i64 (a : Int), .int .i64 (n : Int), .int .i64 v] w fun e w' => e = .returned (.tuple #[]) ∧ GRep w' p vc bb ⟨G.st, G.rest, G.cs, setTo G.mem a v n⟩ ∧ Kept w w' (· = bb) := by
  have HR := hide2 h
  clear h
  go_enter Tryz.func147, Tryz.ntmps147
  go_wp2
  go_loopw [3, 8] (fun x i wr => ∃ m : Nat, m ≤ n ∧ i = .int .i64 (m : Int) ∧ x = .int .i64 (shrV v m) ∧ Kept w wr (· = bb) ∧ Blk wr bb 5 ((setTo G.mem a v m).map (Value.int .u8))) (fun _ i _ => n - (intOf i).toNat)
  case atStart => exact ⟨0, by omega, by simp, rfl, ⟨rfl, rfl, rfl, Nat.le_refl _, fun _ _ _ => rfl⟩, HR.out.mem⟩
  case round =>
    obtain ⟨m, hmn, rfl, rfl, hk, hbk⟩ := hrel
    have hblk : Blk wr p 79 [.int .i64 G.st, .int .i64 G.rest, vc, .slice (some ⟨bb, 0, none⟩) G.mem.length G.mem.length] := (hk.block p HR.out.blk.lt (fun e => HR.out.apB e.symm)).trans HR.out.blk
    have c3 := hblk.cell (j := 3) rfl
    have HK : Hid (Kept w wr (· = bb)) := hk
    by_cases hlt : m < n
    · have hlen := setTo_len G.mem a v m
      have hs := hbk.setCell (a + m) (.int .u8 (shrV v m % 256))
      rw [show ((setTo G.mem a v m).map (Value.int .u8)).set (a + m) (.int .u8 (shrV v m % 256)) = (setTo G.mem a v (m + 1)).map (Value.int .u8) by simp [setTo, List.map_set]] at hs
      have ci := hbk.cell (j := a + m) (v := .int .u8 ((setTo G.mem a v m)[a + m]'(by omega))) (by rw [List.getElem?_map, List.getElem?_eq_getElem (by omega)]; rfl)
      have fi := hbk.frozen (a + m)
      generalize (setTo G.mem a v m)[a + m]'(by omega) = x0 at ci
      have e1 : ((a : Int) + (m : Int)).toNat = a + m := by omega
      have i0 : (0 : Int) ≤ (a : Int) + (m : Int) := by omega
      have i1 : (a : Int) + (m : Int) < (G.mem.length : Int) := by omega
      have hv := shrV_bd v m v0 v1
      have x0' := hv.1
      have x1' := hv.2
      have HV : Hid (shrV v (m + 1) = shrV v m / 256) := rfl
      have HS : Hid (Blk (wr.setCell ⟨bb, a + m, none⟩ (.int .u8 (shrV v m % 256))) bb 5 ((setTo G.mem a v (m + 1)).map (Value.int .u8))) := hs
      clear hs hbk hk hblk hlen hv
      generalize shrV v m = xv at *
      go_wp2
      go_roundw
      case rel => exact ⟨m + 1, by omega, by go_num, by rw [HV.out], ⟨HK.out.os, HK.out.tape, HK.out.output, by rw [World.size_setCell]; exact HK.out.size, fun x hx hs => (Below.heap_setCell wr _ _ x hs).trans (HK.out.block x hx hs)⟩, HS.out⟩
      case measure => simp [intOf]; omega
    · obtain rfl : m = n := by omega
      have hfin := hide2 (HR.out.setMem (setTo G.mem a v m) (setTo_len _ _ _ _) hk hbk)
      clear hbk hk hblk
      go_wp2
      go_end0
      exact ⟨rfl, hfin.out, HK.out⟩

/-- 'copy' within a region that draws its order: the row that is written, all else kept -/
theorem step_copy_keep {P : Program} {ops : Array Oper} {o : Oper} {a : Act} {w : World} {K : Act → World → Prop} {Q : Exit → Act → World → Prop} {E : Prop} (hgd : o.guard = none) (d s : Operand) (dT sT : TypeId)
    (ho : o.op = .call { callee := .builtin .copy, args := #[d, s], argTypes := #[dT, sT] }) (elem : TypeId) (hu : P.underlying dT = some (.slice elem)) (hsz : (P.info? elem).map (·.size) = some 1)
    (g off dLen dCap : Nat) (ad : Addr) (sLen sCap : Nat) (hd : a.eval d = .slice (some ⟨g, off, none⟩) dLen dCap) (hs : a.eval s = .slice (some ad) sLen sCap)
    (cur : List Value) (t : TypeId) (hg : Blk w g t cur) (cs : List Value) (hn : cs.length = Nat.min sLen dLen)
    (hsrc : ∀ j v, cs[j]? = some v → w.cell? (ad.add j) = some v) (hfit : off + cs.length ≤ cur.length) (h1 : ∀ v ∈ cs, v.oneCell' = true)
    (h : ∀ w', Hid (Blk w' g t (splice cur off cs)) → Hid (Kept w w' (· = g)) → K (a.put o.dst (goInt cs.length)) w') :
    if Region.wanted o (yielded ops a.tmps) = true then Oper.wp P o a w K Q else E := by
  have hw : Region.wanted o (yielded ops a.tmps) = true := by simp [Region.wanted, hgd]
  rw [if_pos hw]
  have hrun := run_copy_row (P := P) w dT sT o.type elem g off dLen dCap ad sLen sCap cur.toArray t cs hu hsz hg hn hsrc (by simpa using hfit) h1
  unfold Oper.wp
  simp [execOp, ho, resolve, invoke, builtin, hd, hs, hrun, Result.andThen]
  refine h _ (show Blk _ _ _ _ from ?_) (show Kept _ _ _ from ⟨rfl, rfl, rfl, by simp [World.setRow], fun k _ hs => setRow_other w g k _ hs⟩)
  unfold Blk
  simpa [splice] using setRow_heap w g _ _ t _ hg

theorem splice_map (mem : List Int) (a b n : Nat) (hb : b + n ≤ mem.length) : splice (mem.map (Value.int .u8)) a (((mem.drop b).take n).map (Value.int .u8)) = (copyTo mem a b n).map (Value.int .u8) := by
  have l2 : ((mem.drop b).take n).length = n := by simp; omega
  unfold splice copyTo
  rw [List.length_map, l2, List.map_append, List.map_append]
  simp only [List.map_take, List.map_drop]

set_option maxRecDepth 100000 in
set_option maxHeartbeats 1600000 in
theorem copyBytes_any (p : Nat) (vc : Value) (bb : Nat) (G : GSt) (a b n : Nat) (w : World) (h : GRep w p vc bb G) (ha : a + n ≤ G.mem.length) (hb : b + n ≤ G.mem.length) (ha' : a < G.mem.length) (hb' : b < G.mem.length) (hsm : G.mem.length ≤ 1000000) :
    Calls Tryz.prog 143 #[.pointer (some ⟨p, 0, none⟩), .int .i64 (a : Int), .int .i64 (b : Int), .int .i64 (n : Int)] w fun e w' => e = .returned (.tuple #[]) ∧ GRep w' p vc bb ⟨G.st, G.rest, G.cs, copyTo G.mem a b n⟩ ∧ Kept w w' (· = bb) := by
  have HR := hide2 h
  have c3 := h.blk.cell (j := 3) rfl
  have hmem := hide2 h.mem
  clear h
  have a0 : (0 : Int) ≤ (a : Int) := by omega
  have b0 : (0 : Int) ≤ (b : Int) := by omega
  obtain ⟨cs, hcs⟩ : ∃ cs, cs = ((G.mem.drop b).take n).map (Value.int .u8) := ⟨_, rfl⟩
  have HCS := hide2 hcs
  have hcl : cs.length = n := by rw [hcs]; simp; omega
  have HCELL : Hid (∀ j v, cs[j]? = some v → w.drew.cell? ((⟨bb, b, none⟩ : Addr).add j) = some v) := fun j v hj => by
    rw [World.cell?_drew, show (⟨bb, b, none⟩ : Addr).add j = ⟨bb, b + j, none⟩ by simp [Addr.add]]
    refine hmem.out.cell ?_
    rw [hcs, List.getElem?_map, List.getElem?_take] at hj
    split at hj
    · rw [List.getElem?_drop] at hj; rw [List.getElem?_map]; exact hj
    · cases hj
  have HONE : Hid (∀ v ∈ cs, v.oneCell' = true) := fun v hv => by
    rw [hcs] at hv
    obtain ⟨x, _, rfl⟩ := List.mem_map.1 hv
    rfl
  clear hcs
  have HSP := hide2 (splice_map G.mem a b n hb)
  go_enter Tryz.func143, Tryz.ntmps143
  obtain ⟨an, han⟩ : ∃ an, an = a + n := ⟨_, rfl⟩
  obtain ⟨bn, hbn⟩ : ∃ bn, bn = b + n := ⟨_, rfl⟩
  have wa : IntKind.i64.wrap ((a : Int) + (n : Int)) = (an : Int) := by rw [IntKind.wrap_i64]; omega
  have wb : IntKind.i64.wrap ((b : Int) + (n : Int)) = (bn : Int) := by rw [IntKind.wrap_i64]; omega
  have x1 : an ≤ G.mem.length := by omega
  have x2 : bn ≤ G.mem.length := by omega
  have x3 : a ≤ an := by omega
  have x4 : b ≤ bn := by omega
  have x5 : ¬ G.mem.length = a := by omega
  have x6 : ¬ G.mem.length = b := by omega
  have HAN := hide2 han
  have HBN := hide2 hbn
  clear han hbn
  go_region_law ((refine step_copy_keep (by rfl) _ _ _ _ (by rfl) 5 Tryz.underlying77 (by kernel_rfl) bb a (an - a) (G.mem.length - a) ⟨bb, b, none⟩ (bn - b) (G.mem.length - b) (by rfl) (by rfl) (G.mem.map (Value.int .u8)) 5 (show Blk w.drew _ _ _ from hmem.out) cs (by rw [hcl, HAN.out, HBN.out]; simp) (fun j v hj => HCELL.out j v hj) (by simp; omega) HONE.out ?_; intro w7 hb7 hk7))
  all_goals
    have hk : Hid (Kept w w7 (· = bb)) := ⟨hk7.out.os, hk7.out.tape, hk7.out.output, hk7.out.size, hk7.out.block⟩
    have hB : Hid (Blk w7 bb 5 ((copyTo G.mem a b n).map (Value.int .u8))) := by
      show Blk _ _ _ _
      rw [← HSP.out, ← HCS.out]; exact hb7.out
    have hfin := hide2 (HR.out.setMem (copyTo G.mem a b n) (copyTo_len _ _ _ _ ha hb) hk.out hB.out)
    clear hb7 hk7
    go_end0
    exact ⟨rfl, hfin.out, hk.out⟩
end Go.Proofs.YtjikemhmnkckcabGreat
/- The simulation with its bytes. Plain mathematics. -/
namespace Go.Proofs.YtjikemhmnkckcabGreat
open Go.RowKit

/-- what is given out fits into its slot -/
def Fits (R : RSt) : Prop := ∀ i, i < R.log.length → (R.log.getD i Ref.Ev.no).back = false → 1 ≤ (R.log.getD i Ref.Ev.no).size ∧ (R.log.getD i Ref.Ev.no).size ≤ Cf.gr R.cls (R.log.getD i Ref.Ev.no).cls.toNat ∧ 1 ≤ (R.log.getD i Ref.Ev.no).tag ∧ (R.log.getD i Ref.Ev.no).tag ≤ 14

/-- .. where something may be touched, both have the same byte -/
structure SimB (G : GSt) (R : RSt) : Prop where
  sim : Sim G R
  marks : MarksOk R
  mem : ∀ i, i < G.mem.length → 0 ≤ G.mem.getD i 0 ∧ G.mem.getD i 0 ≤ 255
  bytes : ∀ addr : Int, R.tag addr ≠ -1 → R.tag addr ≠ 15 → G.mem.getD addr.toNat 0 = R.byte addr
  fits : Fits R

theorem Sim.small {G : GSt} {R : RSt} (h : Sim G R) : G.mem.length ≤ 1000000 := by
  have h1 := h.mem
  have h2 := Cf.gran_bd h.rok.conf R.cls.length (Nat.le_refl _)
  have h3 := h.rok.conf.n1
  rw [h.st] at h1
  omega

/-- memory that is there -/
theorem Sim.there {G : GSt} {R : RSt} (h : Sim G R) (addr : Int) (ht : R.tag addr ≠ -1) : 16 ≤ addr ∧ addr < (G.mem.length : Int) := by
  have hv := h.rok.conf
  have hm := h.mem
  rw [h.st] at hm
  unfold RSt.tag Cf.tag at ht
  by_cases h1 : 16 ≤ addr ∧ addr < 16 * (1 + R.st)
  · have h2 := Cf.gran_mono hv 0 R.cls.length (by omega) (Nat.le_refl _)
    have h3 : Cf.gran R.st R.cls 0 = 2 + R.st := by simp only [Cf.gran]; omega
    omega
  · rw [if_neg h1] at ht
    rcases Cf.slot_bd R.st R.cls addr with hsl | ⟨k, s, hsl, hk, hs, hin⟩
    · rw [hsl] at ht; simp at ht
    · have he := Cf.begin_end hv k s hk (by omega)
      have hb := Cf.begin_bd hv k hk s (by omega) (by have := hv.s1 k hk; omega)
      simp only [Cf.inS, Bool.and_eq_true, decide_eq_true_eq] at hin
      omega

theorem accFrom_zero (tag : Int → Int) (t a : Int) (f i : Nat) (h : (Ref.accFrom tag t a f i).1 = 0) : ∀ j : Nat, i ≤ j → j < i + f → tag (a + j) = t ∧ t ≠ -1 ∧ t ≠ 15 := by
  induction f generalizing i with
  | zero => intro j h1 h2; omega
  | succ f ih =>
    intro j h1 h2
    simp only [Ref.accFrom] at h
    by_cases e1 : tag (a + i) = -1
    · rw [if_pos e1] at h; simp at h
    · rw [if_neg e1] at h
      by_cases e2 : tag (a + i) = 15 ∨ tag (a + i) ≠ t
      · rw [if_pos e2] at h; simp at h
      · rw [if_neg e2] at h
        by_cases ej : j = i
        · subst ej; omega
        · exact ih (i + 1) h j (by omega) (by omega)

/-- what an access that is let through tells -/
theorem access_tags {R : RSt} {q n : Int} (h : (R.access q n).1 = 0) (hn : 0 < n) (j : Nat) (hj : (j : Int) < n) : R.tag (q % 72057594037927936 + j) = q / 72057594037927936 ∧ R.tag (q % 72057594037927936 + j) ≠ -1 ∧ R.tag (q % 72057594037927936 + j) ≠ 15 := by
  have ht := access_ok h hn
  unfold RSt.access at h
  rw [if_neg (by omega), if_neg (by omega), ht.1, if_pos rfl] at h
  have := accFrom_zero _ _ _ _ _ h j (by omega) (by omega)
  omega

/-- .. all its bytes are there -/
theorem Sim.access_in {G : GSt} {R : RSt} (h : Sim G R) {q n : Int} (ha : (R.access q n).1 = 0) (hn : 0 < n) : 16 ≤ q % 72057594037927936 ∧ q % 72057594037927936 + n ≤ (G.mem.length : Int) := by
  have h0 := h.there _ (access_tags ha hn 0 (by omega)).2.1
  have h1 := h.there _ (access_tags ha hn (n - 1).toNat (by omega)).2.1
  omega

theorem tag_marks (R : RSt) (m : List (Int × Int × Int)) (addr : Int) : RSt.tag ⟨R.st, R.rest, R.cls, R.log, m⟩ addr = R.tag addr := rfl
theorem tag_same {R R' : RSt} (h1 : R'.st = R.st) (h2 : R'.cls = R.cls) (h3 : R'.log = R.log) (addr : Int) : R'.tag addr = R.tag addr := by unfold RSt.tag; rw [h1, h2, h3]

theorem Sim.memory {G : GSt} {R R' : RSt} (h : Sim G R) (mem : List Int) (hl : mem.length = G.mem.length) (h1 : R'.st = R.st) (h2 : R'.rest = R.rest) (h3 : R'.cls = R.cls) (h4 : R'.log = R.log) : Sim ⟨G.st, G.rest, G.cs, mem⟩ R' := by
  refine ⟨h.st.trans h1.symm, ?_, ⟨?_, ?_, ?_, ?_⟩, ?_, h.rok.same h1 h2 h3 h4, h.bd, ?_⟩
  · show (mem.length : Int) = _
    rw [hl, h3]; exact h.mem
  · rw [h4]; exact h.log.cls0
  · rw [h4]; exact h.log.slot0
  · rw [h4, h3]; exact h.log.slot1
  · rw [h4]; exact h.log.vir
  · rw [h2, h3]; exact ⟨h.ok.conf, h.ok.rest_, h.ok.len, h.ok.bg, h.ok.by_, h.ok.sl⟩
  · rw [h2, h3, h4]; exact h.slots

theorem SimB.write {G : GSt} {R R' : RSt} (h : SimB G R) (mem : List Int) (hl : mem.length = G.mem.length) (h1 : R'.st = R.st) (h2 : R'.rest = R.rest) (h3 : R'.cls = R.cls) (h4 : R'.log = R.log)
    (hm : MarksOk R') (hb : ∀ i, i < mem.length → 0 ≤ mem.getD i 0 ∧ mem.getD i 0 ≤ 255)
    (hs : ∀ addr : Int, 16 ≤ addr → R.tag addr ≠ -1 → R.tag addr ≠ 15 → mem.getD addr.toNat 0 = R'.byte addr) : SimB ⟨G.st, G.rest, G.cs, mem⟩ R' := by
  refine ⟨h.sim.memory mem hl h1 h2 h3 h4, hm, hb, fun addr t1 t2 => ?_, by unfold Fits; rw [h3, h4]; exact h.fits⟩
  rw [tag_same h1 h3 h4] at t1 t2
  exact hs addr (h.sim.there addr t1).1 t1 t2

theorem MarksOk.stores {R : RSt} (h : MarksOk R) (a value : Int) (n : Nat) : MarksOk (R.stores a value n) := by
  induction n with
  | zero => exact h
  | succ n ih => exact ih.mark _ _ (by omega) (by omega)
theorem MarksOk.moves {R : RSt} (h : MarksOk R) (a b : Int) (n : Nat) : MarksOk (R.moves a b n) := by
  induction n with
  | zero => exact h
  | succ n ih => exact ih.mark _ _ (h.byte_bd _).1 (h.byte_bd _).2
theorem MarksOk.copies {R : RSt} (h : MarksOk R) (a b : Int) (n : Nat) : MarksOk (R.copies a b n) := by
  induction n with
  | zero => exact h
  | succ n ih => exact ih.mark _ _ (ih.byte_bd _).1 (ih.byte_bd _).2

theorem SimB.store {G : GSt} {R : RSt} (h : SimB G R) (a n : Nat) (v : Int) (han : a + n ≤ G.mem.length) (hn : n ≤ 8) : SimB ⟨G.st, G.rest, G.cs, setTo G.mem a v n⟩ (R.stores a v n) := by
  have hsame := R.stores_same a v n
  refine h.write _ (setTo_len _ _ _ _) hsame.1 hsame.2.1 hsame.2.2.1 hsame.2.2.2.1 (h.marks.stores _ _ _) (fun i hi => ?_) (fun addr h16 t1 t2 => ?_)
  · rw [setTo_getD _ _ _ _ han]
    split
    · omega
    · exact h.mem i (by rw [← setTo_len G.mem a v n]; exact hi)
  · rw [setTo_getD _ _ _ _ han, RSt.stores_byte]
    by_cases hc : a ≤ addr.toNat ∧ addr.toNat < a + n
    · rw [if_pos hc, if_pos (by omega), show (addr - (a : Int)).toNat = addr.toNat - a by omega, shrV_st v _ (by omega)]
    · rw [if_neg hc, if_neg (by omega)]; exact h.bytes addr t1 t2

theorem SimB.move {G : GSt} {R : RSt} (h : SimB G R) (a b n : Nat) (ha : a + n ≤ G.mem.length) (hb : b + n ≤ G.mem.length) (hr : ∀ j : Nat, j < n → R.tag ((b : Int) + j) ≠ -1 ∧ R.tag ((b : Int) + j) ≠ 15) : SimB ⟨G.st, G.rest, G.cs, copyTo G.mem a b n⟩ (R.moves a b n) := by
  have hsame := R.moves_same a b n
  refine h.write _ (copyTo_len _ _ _ _ ha hb) hsame.1 hsame.2.1 hsame.2.2.1 hsame.2.2.2.1 (h.marks.moves _ _ _) (fun i hi => ?_) (fun addr h16 t1 t2 => ?_)
  · rw [copyTo_len _ _ _ _ ha hb] at hi
    rw [copyTo_getD _ _ _ _ ha hb]
    split
    · exact h.mem _ (by omega)
    · exact h.mem i hi
  · rw [copyTo_getD _ _ _ _ ha hb, RSt.moves_byte]
    by_cases hc : a ≤ addr.toNat ∧ addr.toNat < a + n
    · rw [if_pos hc, if_pos (by omega)]
      have e := hr (addr.toNat - a) (by omega)
      have e2 := h.bytes ((b : Int) + ((addr.toNat - a : Nat) : Int)) e.1 e.2
      rw [show ((b : Int) + ((addr.toNat - a : Nat) : Int)).toNat = b + (addr.toNat - a) by omega] at e2
      rw [e2, show (b : Int) + ((addr.toNat - a : Nat) : Int) = b + (addr - a) by omega]
    · rw [if_neg hc, if_neg (by omega)]; exact h.bytes addr t1 t2

theorem SimB.copy {G : GSt} {R : RSt} (h : SimB G R) (a b n : Nat) (ha : a + n ≤ G.mem.length) (hb : b + n ≤ G.mem.length) (hd : b + n ≤ a ∨ a + n ≤ b) (hr : ∀ j : Nat, j < n → R.tag ((b : Int) + j) ≠ -1 ∧ R.tag ((b : Int) + j) ≠ 15) : SimB ⟨G.st, G.rest, G.cs, copyTo G.mem a b n⟩ (R.copies a b n) := by
  have hsame := R.copies_same a b n
  refine h.write _ (copyTo_len _ _ _ _ ha hb) hsame.1 hsame.2.1 hsame.2.2.1 hsame.2.2.2.1 (h.marks.copies _ _ _) (fun i hi => ?_) (fun addr h16 t1 t2 => ?_)
  · rw [copyTo_len _ _ _ _ ha hb] at hi
    rw [copyTo_getD _ _ _ _ ha hb]
    split
    · exact h.mem _ (by omega)
    · exact h.mem i hi
  · rw [copyTo_getD _ _ _ _ ha hb, RSt.copies_byte R a b n (by omega)]
    by_cases hc : a ≤ addr.toNat ∧ addr.toNat < a + n
    · rw [if_pos hc, if_pos (by omega)]
      have e := hr (addr.toNat - a) (by omega)
      have e2 := h.bytes ((b : Int) + ((addr.toNat - a : Nat) : Int)) e.1 e.2
      rw [show ((b : Int) + ((addr.toNat - a : Nat) : Int)).toNat = b + (addr.toNat - a) by omega] at e2
      rw [e2, show (b : Int) + ((addr.toNat - a : Nat) : Int) = b + (addr - a) by omega]
    · rw [if_neg hc, if_neg (by omega)]; exact h.bytes addr t1 t2
end Go.Proofs.YtjikemhmnkckcabGreat
