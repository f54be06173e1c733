import Derived.Test.YtjikemhmnkckcabGreatJ19
import Derived.Laws.BitsLemmas
namespace Go.Proofs.YtjikemhmnkckcabGreat
open Go.RowKit
def RSt.copies (R : RSt) (a b : Int) : Nat → RSt
 | 0 => R
 | i + 1 => (R.copies a b i).mark (a + i) ((R.copies a b i).byte (b + i))
theorem RSt.copies_same (R : RSt) (a b : Int) (i : Nat) : (R.copies a b i).st = R.st ∧ (R.copies a b i).rest = R.rest ∧ (R.copies a b i).cls = R.cls ∧ (R.copies a b i).log = R.log ∧ (R.copies a b i).marks.length = R.marks.length + i := by
 induction i with
 | zero => exact ⟨rfl, rfl, rfl, rfl, rfl⟩
 | succ i ih => exact ⟨ih.1, ih.2.1, ih.2.2.1, ih.2.2.2.1, by show ((R.copies a b i).marks ++ [(a + i, (R.copies a b i).byte (b + i), ((R.copies a b i).log.length : Int))]).length = _; rw [List.length_append, ih.2.2.2.2]; rfl⟩
theorem ROk.same {R R' : RSt} (h : ROk R) (h1 : R'.st = R.st) (h2 : R'.rest = R.rest) (h3 : R'.cls = R.cls) (h4 : R'.log = R.log) : ROk R' :=
 ⟨by rw [h1, h2, h3]; exact h.conf, fun i => by rw [h4]; exact h.size0 i, fun i => by rw [h4]; exact h.size1 i⟩
def fR (R : RSt) (q site : Int) : RSt :=
 if q ≠ 0 ∧ (Ref.block R.st R.cls R.log q).2.2 = 0 then ⟨R.st, R.rest, R.cls, R.log ++ [⟨true, (Ref.block R.st R.cls R.log q).1, (Ref.block R.st R.cls R.log q).2.1, 0, 0, site⟩], R.marks⟩ else R
def RSt.reN (R : RSt) (q size draw site : Int) : Nat := (min ((mR R size draw site).usable q).1 ((mR R size draw site).usable (mOut R size draw).1).1).toNat
def RSt.reBad (R : RSt) (q : Int) : Prop := q ≠ 0 ∧ (Ref.block R.st R.cls R.log q).2.2 ≠ 0
instance (R : RSt) (q : Int) : Decidable (R.reBad q) := by unfold RSt.reBad; infer_instance
def RSt.reOut (R : RSt) (q size draw : Int) : Int × Int := if R.reBad q then (0, (Ref.block R.st R.cls R.log q).2.2) else mOut R size draw
def RSt.re (R : RSt) (q size draw site : Int) : RSt :=
 if R.reBad q then R else if (mOut R size draw).2 ≠ 0 ∨ q = 0 then mR R size draw site
 else fR ((mR R size draw site).copies ((mOut R size draw).1 % 72057594037927936) (q % 72057594037927936) (R.reN q size draw site)) q site
end Go.Proofs.YtjikemhmnkckcabGreat
namespace Go.Proofs.YtjikemhmnkckcabGreat
open Go.RowKit
namespace Ref
theorem byteTo_old (marks : List (Int × Int × Int)) (m : Int × Int × Int) (addr since : Int) (n : Nat) (h : n ≤ marks.length) : byteTo (marks ++ [m]) addr since n = byteTo marks addr since n := by
 induction n with
 | zero => rfl
 | succ n ih =>
   have e : (marks ++ [m]).getD n mkNo = marks.getD n mkNo := by
    simp [List.getD_eq_getElem?_getD, List.getElem?_append_left (show n < marks.length by omega)]
   simp only [byteTo, e, ih (by omega)]
theorem byteTo_snoc (marks : List (Int × Int × Int)) (m : Int × Int × Int) (addr since : Int) :
 byteTo (marks ++ [m]) addr since (marks ++ [m]).length = if m.1 = addr ∧ since ≤ m.2.2 then m.2.1 else byteTo marks addr since marks.length := by
 rw [show (marks ++ [m]).length = marks.length + 1 by simp];have e : (marks ++ [m]).getD marks.length mkNo = m := by simp
 simp only [byteTo, e, byteTo_old marks m addr since marks.length (Nat.le_refl _)]
theorem sinceAt_hi (st : Int) (cls : List (Int × Int)) (log : List Ev) (addr : Int) : sinceAt st cls log addr ≤ log.length := by
 unfold sinceAt
 split
 ·omega
 ·have := given_hi log (Cf.slot st cls addr).1 (Cf.slot st cls addr).2; omega
theorem byteTo_none (marks : List (Int × Int × Int)) (addr since : Int) (n : Nat) (h : ∀ i, i < n → (marks.getD i mkNo).2.2 < since) : byteTo marks addr since n = 0 := by
 induction n with
 | zero => rfl
 | succ n ih =>
   simp only [byteTo];rw [if_neg (fun x => by have := h n (by omega); omega)];exact ih fun i hi => h i (by omega)
theorem byteTo_bd (marks : List (Int × Int × Int)) (addr since : Int) (n : Nat) (h : ∀ i, i < n → 0 ≤ (marks.getD i mkNo).2.1 ∧ (marks.getD i mkNo).2.1 ≤ 255) : 0 ≤ byteTo marks addr since n ∧ byteTo marks addr since n ≤ 255 := by
 induction n with
 | zero => simp [byteTo]
 | succ n ih =>
   simp only [byteTo]
   split
   ·exact h n (by omega)
   ·exact ih fun i hi => h i (by omega)
end Ref
structure MarksOk (R : RSt) : Prop where
 byte : ∀ i, i < R.marks.length → 0 ≤ (R.marks.getD i mkNo).2.1 ∧ (R.marks.getD i mkNo).2.1 ≤ 255
 when_ : ∀ i, i < R.marks.length → (R.marks.getD i mkNo).2.2 ≤ R.log.length
theorem MarksOk.byte_bd {R : RSt} (h : MarksOk R) (addr : Int) : 0 ≤ R.byte addr ∧ R.byte addr ≤ 255 := Ref.byteTo_bd _ _ _ _ h.byte
theorem MarksOk.mark {R : RSt} (h : MarksOk R) (a b : Int) (b0 : 0 ≤ b) (b1 : b ≤ 255) : MarksOk (R.mark a b) := by
 have key : ∀ i, i < (R.mark a b).marks.length → (R.mark a b).marks.getD i mkNo = R.marks.getD i mkNo ∧ i < R.marks.length ∨ (R.mark a b).marks.getD i mkNo = (a, b, (R.log.length : Int)) := by
  intro i hi;have hl : (R.mark a b).marks.length = R.marks.length + 1 := by simp [RSt.mark]
  by_cases e : i < R.marks.length
  ·left
   refine ⟨?_, e⟩;simp [RSt.mark, List.getD_eq_getElem?_getD, List.getElem?_append_left e]
  ·right
   obtain rfl : i = R.marks.length := by omega
   simp [RSt.mark]
 refine ⟨fun i hi => ?_, fun i hi => ?_⟩
 ·rcases key i hi with ⟨e, hl⟩ | e
  ·rw [e]; exact h.byte i hl
  ·rw [e]; exact ⟨b0, b1⟩
 ·rcases key i hi with ⟨e, hl⟩ | e
  ·rw [e]; exact h.when_ i hl
  ·rw [e]; exact Int.le_refl _
theorem MarksOk.event {R : RSt} (h : MarksOk R) (e : Ref.Ev) : MarksOk ⟨R.st, R.rest, R.cls, R.log ++ [e], R.marks⟩ :=
 ⟨h.byte, fun i hi => by
   have := h.when_ i hi;have hl : (R.log ++ [e]).length = R.log.length + 1 := by simp
   show (R.marks.getD i mkNo).2.2 ≤ ((R.log ++ [e]).length : Int);rw [hl]; omega⟩
theorem RSt.mark_byte (R : RSt) (a b addr : Int) : (R.mark a b).byte addr = if addr = a then b else R.byte addr := by
 show Ref.byteTo (R.marks ++ [(a, b, (R.log.length : Int))]) addr (Ref.sinceAt R.st R.cls R.log addr) (R.marks ++ [(a, b, (R.log.length : Int))]).length = _;rw [Ref.byteTo_snoc];have hs := Ref.sinceAt_hi R.st R.cls R.log addr
 by_cases h : addr = a
 ·rw [if_pos ⟨h.symm, hs⟩, if_pos h]
 ·rw [if_neg (fun x => h x.1.symm), if_neg h]; rfl
theorem RSt.stores_byte (R : RSt) (a value : Int) (n : Nat) (addr : Int) : (R.stores a value n).byte addr = if a ≤ addr ∧ addr < a + n then Ref.stV value (addr - a).toNat % 256 else R.byte addr := by
 induction n with
 | zero => rw [if_neg (by omega)]; rfl
 | succ n ih =>
   show ((R.stores a value n).mark (a + n) (Ref.stV value n % 256)).byte addr = _;rw [RSt.mark_byte, ih]
   by_cases h : addr = a + n
   ·rw [if_pos h, if_pos (by omega), show (addr - a).toNat = n by omega]
   ·rw [if_neg h]
    by_cases h2 : a ≤ addr ∧ addr < a + n
    ·rw [if_pos h2, if_pos (by omega)]
    ·rw [if_neg h2, if_neg (by omega)]
theorem RSt.moves_byte (R : RSt) (a b : Int) (n : Nat) (addr : Int) : (R.moves a b n).byte addr = if a ≤ addr ∧ addr < a + n then R.byte (b + (addr - a)) else R.byte addr := by
 induction n with
 | zero => rw [if_neg (by omega)]; rfl
 | succ n ih =>
   show ((R.moves a b n).mark (a + n) (R.byte (b + n))).byte addr = _;rw [RSt.mark_byte, ih]
   by_cases h : addr = a + n
   ·rw [if_pos h, if_pos (by omega), show b + (addr - a) = b + n by omega]
   ·rw [if_neg h]
    by_cases h2 : a ≤ addr ∧ addr < a + n
    ·rw [if_pos h2, if_pos (by omega)]
    ·rw [if_neg h2, if_neg (by omega)]
theorem RSt.copies_byte (R : RSt) (a b : Int) (n : Nat) (hd : b + n ≤ a ∨ a + n ≤ b) (addr : Int) : (R.copies a b n).byte addr = if a ≤ addr ∧ addr < a + n then R.byte (b + (addr - a)) else R.byte addr := by
 induction n generalizing addr with
 | zero => rw [if_neg (by omega)]; rfl
 | succ n ih =>
   have ih' := ih (by omega);show ((R.copies a b n).mark (a + n) ((R.copies a b n).byte (b + n))).byte addr = _;rw [RSt.mark_byte, ih', ih', if_neg (show ¬ (a ≤ b + n ∧ b + n < a + n) by omega)]
   by_cases h : addr = a + n
   ·rw [if_pos h, if_pos (by omega), show b + (addr - a) = b + n by omega]
   ·rw [if_neg h]
    by_cases h2 : a ≤ addr ∧ addr < a + n
    ·rw [if_pos h2, if_pos (by omega)]
    ·rw [if_neg h2, if_neg (by omega)]
theorem RSt.byte_gives {R : RSt} (h : MarksOk R) (e : Ref.Ev) (addr : Int) (hk : 0 ≤ (Cf.slot R.st R.cls addr).1) (hg : e.gives (Cf.slot R.st R.cls addr).1 (Cf.slot R.st R.cls addr).2 = true) :
 RSt.byte ⟨R.st, R.rest, R.cls, R.log ++ [e], R.marks⟩ addr = 0 := by
 show Ref.byteTo R.marks addr (Ref.sinceAt R.st R.cls (R.log ++ [e]) addr) R.marks.length = 0;refine Ref.byteTo_none _ _ _ _ fun i hi => ?_
 have := h.when_ i hi;unfold Ref.sinceAt;rw [if_neg (by omega), Ref.given_snoc, if_pos hg];omega
theorem RSt.byte_event (R : RSt) (e : Ref.Ev) (addr : Int) (hg : 0 ≤ (Cf.slot R.st R.cls addr).1 → e.gives (Cf.slot R.st R.cls addr).1 (Cf.slot R.st R.cls addr).2 = false) :
 RSt.byte ⟨R.st, R.rest, R.cls, R.log ++ [e], R.marks⟩ addr = R.byte addr := by
 show Ref.byteTo R.marks addr (Ref.sinceAt R.st R.cls (R.log ++ [e]) addr) R.marks.length = Ref.byteTo R.marks addr (Ref.sinceAt R.st R.cls R.log addr) R.marks.length
 congr 1
 unfold Ref.sinceAt
 by_cases hk : (Cf.slot R.st R.cls addr).1 < 0
 ·rw [if_pos hk, if_pos hk]
 ·rw [if_neg hk, if_neg hk, Ref.given_snoc, if_neg (by rw [hg (by omega)]; decide)]
end Go.Proofs.YtjikemhmnkckcabGreat
namespace Go.Proofs.YtjikemhmnkckcabGreat
open Go.RowKit
theorem or_i64 (x b : Int) (hx : x % 256 = 0) (b0 : 0 ≤ b) (b1 : b < 256) : bits .or .i64 x b = wrap64 (x + b) := by
 show IntKind.i64.wrap (((BitVec.ofInt 64 x ||| BitVec.ofInt 64 b).toNat : Nat) : Int) = _;rw [BitVec.toNat_or, BitVec.toNat_ofInt, BitVec.toNat_ofInt];have hA : (x % ((2 ^ 64 : Nat) : Int)).toNat = 2 ^ 8 * (x % 18446744073709551616 / 256).toNat := by omega
 have hB : (b % ((2 ^ 64 : Nat) : Int)).toNat < 2 ^ 8 := by omega
 rw [hA, ← Nat.two_pow_add_eq_or_of_lt hB, IntKind.wrap_i64];unfold wrap64;omega
def gnum (b : Nat → Int) (n : Nat) : Nat → Int
 | 0 => 0
 | m + 1 => wrap64 (wrap64 (gnum b n m * 256) + b (n - 1 - m))
theorem wrap64_in (x : Int) (h0 : -9223372036854775808 ≤ x) (h1 : x ≤ 9223372036854775807) : wrap64 x = x := by unfold wrap64; omega
set_option maxHeartbeats 1000000 in
theorem gnum_ld (byte : Int → Int) (b : Nat → Int) (a : Int) (n : Nat) (hb : ∀ i, i < n → byte (a + (i : Int)) = b i ∧ 0 ≤ b i ∧ b i ≤ 255) (hn : n = 1 ∨ n = 2 ∨ n = 4 ∨ n = 8) : gnum b n n = Ref.ldV byte a n := by
 have us : ∀ i, Ref.ldU (i + 1) = wrap64 (Ref.ldU i * 256) := fun _ => rfl
 have u0 : Ref.ldU 0 = 1 := rfl;have u1 : Ref.ldU 1 = 256 := by rw [us, u0]; unfold wrap64; omega
 have u2 : Ref.ldU 2 = 65536 := by rw [us, u1]; unfold wrap64; omega
 have u3 : Ref.ldU 3 = 16777216 := by rw [us, u2]; unfold wrap64; omega
 have u4 : Ref.ldU 4 = 4294967296 := by rw [us, u3]; unfold wrap64; omega
 have u5 : Ref.ldU 5 = 1099511627776 := by rw [us, u4]; unfold wrap64; omega
 have u6 : Ref.ldU 6 = 281474976710656 := by rw [us, u5]; unfold wrap64; omega
 have u7 : Ref.ldU 7 = 72057594037927936 := by rw [us, u6]; unfold wrap64; omega
 have gs : ∀ m, gnum b n (m + 1) = wrap64 (wrap64 (gnum b n m * 256) + b (n - 1 - m)) := fun _ => rfl
 have ls : ∀ m, Ref.ldV byte a (m + 1) = wrap64 (Ref.ldV byte a m + wrap64 (byte (a + (m : Int)) * Ref.ldU m)) := fun _ => rfl
 have g0 : gnum b n 0 = 0 := rfl;have l0 : Ref.ldV byte a 0 = 0 := rfl
 rcases hn with rfl | rfl | rfl | rfl
 ·have := hb 0 (by omega);rw [gs 0, ls 0, g0, l0, this.1, u0];simp only [show 1 - 1 - 0 = 0 from rfl];generalize b 0 = x0 at *;unfold wrap64; omega
 ·have h0 := hb 0 (by omega);have h1 := hb 1 (by omega);rw [gs 1, gs 0, ls 1, ls 0, g0, l0, h0.1, h1.1, u0, u1];simp only [show 2 - 1 - 1 = 0 from rfl, show 2 - 1 - 0 = 1 from rfl];generalize b 0 = x0 at *;generalize b 1 = x1 at *;unfold wrap64; omega
 ·have h0 := hb 0 (by omega);have h1 := hb 1 (by omega);have h2 := hb 2 (by omega);have h3 := hb 3 (by omega);have e1 : gnum b 4 1 = b 3 := by rw [gs 0, g0]; show wrap64 (wrap64 (0 * 256) + b 3) = _; rw [wrap64_in (0 * 256) (by omega) (by omega), wrap64_in _ (by omega) (by omega)]; omega
  have e2 : gnum b 4 2 = b 3 * 256 + b 2 := by rw [gs 1, e1]; show wrap64 (wrap64 (b 3 * 256) + b 2) = _; rw [wrap64_in (b 3 * 256) (by omega) (by omega), wrap64_in _ (by omega) (by omega)]
  have e3 : gnum b 4 3 = b 3 * 65536 + b 2 * 256 + b 1 := by rw [gs 2, e2]; show wrap64 (wrap64 ((b 3 * 256 + b 2) * 256) + b 1) = _; rw [wrap64_in ((b 3 * 256 + b 2) * 256) (by omega) (by omega), wrap64_in _ (by omega) (by omega)]; omega
  have e4 : gnum b 4 4 = b 3 * 16777216 + b 2 * 65536 + b 1 * 256 + b 0 := by rw [gs 3, e3]; show wrap64 (wrap64 ((b 3 * 65536 + b 2 * 256 + b 1) * 256) + b 0) = _; rw [wrap64_in ((b 3 * 65536 + b 2 * 256 + b 1) * 256) (by omega) (by omega), wrap64_in _ (by omega) (by omega)]; omega
  have f1 : Ref.ldV byte a 1 = b 0 := by rw [ls 0, l0, h0.1, u0, wrap64_in (b 0 * 1) (by omega) (by omega), wrap64_in _ (by omega) (by omega)]; omega
  have f2 : Ref.ldV byte a 2 = b 0 + b 1 * 256 := by rw [ls 1, f1, h1.1, u1, wrap64_in (b 1 * 256) (by omega) (by omega), wrap64_in _ (by omega) (by omega)]
  have f3 : Ref.ldV byte a 3 = b 0 + b 1 * 256 + b 2 * 65536 := by rw [ls 2, f2, h2.1, u2, wrap64_in (b 2 * 65536) (by omega) (by omega), wrap64_in _ (by omega) (by omega)]
  have f4 : Ref.ldV byte a 4 = b 0 + b 1 * 256 + b 2 * 65536 + b 3 * 16777216 := by rw [ls 3, f3, h3.1, u3, wrap64_in (b 3 * 16777216) (by omega) (by omega), wrap64_in _ (by omega) (by omega)]
  rw [e4, f4]; omega
 ·have h0 := hb 0 (by omega);have h1 := hb 1 (by omega);have h2 := hb 2 (by omega);have h3 := hb 3 (by omega);have h4 := hb 4 (by omega);have h5 := hb 5 (by omega);have h6 := hb 6 (by omega);have h7 := hb 7 (by omega);have e1 : gnum b 8 1 = b 7 := by rw [gs 0, g0]; show wrap64 (wrap64 (0 * 256) + b 7) = _; rw [wrap64_in (0 * 256) (by omega) (by omega), wrap64_in _ (by omega) (by omega)]; omega
  have e2 : gnum b 8 2 = b 7 * 256 + b 6 := by rw [gs 1, e1]; show wrap64 (wrap64 (b 7 * 256) + b 6) = _; rw [wrap64_in (b 7 * 256) (by omega) (by omega), wrap64_in _ (by omega) (by omega)]
  have e3 : gnum b 8 3 = b 7 * 65536 + b 6 * 256 + b 5 := by rw [gs 2, e2]; show wrap64 (wrap64 ((b 7 * 256 + b 6) * 256) + b 5) = _; rw [wrap64_in ((b 7 * 256 + b 6) * 256) (by omega) (by omega), wrap64_in _ (by omega) (by omega)]; omega
  have e4 : gnum b 8 4 = b 7 * 16777216 + b 6 * 65536 + b 5 * 256 + b 4 := by rw [gs 3, e3]; show wrap64 (wrap64 ((b 7 * 65536 + b 6 * 256 + b 5) * 256) + b 4) = _; rw [wrap64_in ((b 7 * 65536 + b 6 * 256 + b 5) * 256) (by omega) (by omega), wrap64_in _ (by omega) (by omega)]; omega
  have e5 : gnum b 8 5 = b 7 * 4294967296 + b 6 * 16777216 + b 5 * 65536 + b 4 * 256 + b 3 := by rw [gs 4, e4]; show wrap64 (wrap64 ((b 7 * 16777216 + b 6 * 65536 + b 5 * 256 + b 4) * 256) + b 3) = _; rw [wrap64_in ((b 7 * 16777216 + b 6 * 65536 + b 5 * 256 + b 4) * 256) (by omega) (by omega), wrap64_in _ (by omega) (by omega)]; omega
  have e6 : gnum b 8 6 = b 7 * 1099511627776 + b 6 * 4294967296 + b 5 * 16777216 + b 4 * 65536 + b 3 * 256 + b 2 := by rw [gs 5, e5]; show wrap64 (wrap64 ((b 7 * 4294967296 + b 6 * 16777216 + b 5 * 65536 + b 4 * 256 + b 3) * 256) + b 2) = _; rw [wrap64_in ((b 7 * 4294967296 + b 6 * 16777216 + b 5 * 65536 + b 4 * 256 + b 3) * 256) (by omega) (by omega), wrap64_in _ (by omega) (by omega)]; omega
  have e7 : gnum b 8 7 = b 7 * 281474976710656 + b 6 * 1099511627776 + b 5 * 4294967296 + b 4 * 16777216 + b 3 * 65536 + b 2 * 256 + b 1 := by rw [gs 6, e6]; show wrap64 (wrap64 ((b 7 * 1099511627776 + b 6 * 4294967296 + b 5 * 16777216 + b 4 * 65536 + b 3 * 256 + b 2) * 256) + b 1) = _; rw [wrap64_in ((b 7 * 1099511627776 + b 6 * 4294967296 + b 5 * 16777216 + b 4 * 65536 + b 3 * 256 + b 2) * 256) (by omega) (by omega), wrap64_in _ (by omega) (by omega)]; omega
  have f1 : Ref.ldV byte a 1 = b 0 := by rw [ls 0, l0, h0.1, u0, wrap64_in (b 0 * 1) (by omega) (by omega), wrap64_in _ (by omega) (by omega)]; omega
  have f2 : Ref.ldV byte a 2 = b 0 + b 1 * 256 := by rw [ls 1, f1, h1.1, u1, wrap64_in (b 1 * 256) (by omega) (by omega), wrap64_in _ (by omega) (by omega)]
  have f3 : Ref.ldV byte a 3 = b 0 + b 1 * 256 + b 2 * 65536 := by rw [ls 2, f2, h2.1, u2, wrap64_in (b 2 * 65536) (by omega) (by omega), wrap64_in _ (by omega) (by omega)]
  have f4 : Ref.ldV byte a 4 = b 0 + b 1 * 256 + b 2 * 65536 + b 3 * 16777216 := by rw [ls 3, f3, h3.1, u3, wrap64_in (b 3 * 16777216) (by omega) (by omega), wrap64_in _ (by omega) (by omega)]
  have f5 : Ref.ldV byte a 5 = b 0 + b 1 * 256 + b 2 * 65536 + b 3 * 16777216 + b 4 * 4294967296 := by rw [ls 4, f4, h4.1, u4, wrap64_in (b 4 * 4294967296) (by omega) (by omega), wrap64_in _ (by omega) (by omega)]
  have f6 : Ref.ldV byte a 6 = b 0 + b 1 * 256 + b 2 * 65536 + b 3 * 16777216 + b 4 * 4294967296 + b 5 * 1099511627776 := by rw [ls 5, f5, h5.1, u5, wrap64_in (b 5 * 1099511627776) (by omega) (by omega), wrap64_in _ (by omega) (by omega)]
  have f7 : Ref.ldV byte a 7 = b 0 + b 1 * 256 + b 2 * 65536 + b 3 * 16777216 + b 4 * 4294967296 + b 5 * 1099511627776 + b 6 * 281474976710656 := by rw [ls 6, f6, h6.1, u6, wrap64_in (b 6 * 281474976710656) (by omega) (by omega), wrap64_in _ (by omega) (by omega)]
  rw [gs 7, e7, ls 7, f7, h7.1, u7];show wrap64 (wrap64 _ + b 0) = _;obtain ⟨S, hS⟩ : ∃ S, S = b 1 + b 2 * 256 + b 3 * 65536 + b 4 * 16777216 + b 5 * 4294967296 + b 6 * 1099511627776 := ⟨_, rfl⟩
  rw [show (b 7 * 281474976710656 + b 6 * 1099511627776 + b 5 * 4294967296 + b 4 * 16777216 + b 3 * 65536 + b 2 * 256 + b 1) * 256 = S * 256 + b 7 * 72057594037927936 by rw [hS]; omega, show b 0 + b 1 * 256 + b 2 * 65536 + b 3 * 16777216 + b 4 * 4294967296 + b 5 * 1099511627776 + b 6 * 281474976710656 = S * 256 + b 0 by rw [hS]; omega];clear e1 e2 e3 e4 e5 e6 e7 f1 f2 f3 f4 f5 f6 f7 hS;generalize b 0 = x0 at *;generalize b 7 = x7 at *;unfold wrap64; omega
def shrV (v : Int) : Nat → Int
 | 0 => v
 | m + 1 => shrV v m / 256
theorem shrV_st (v : Int) (m : Nat) (hm : m < 8) : shrV v m % 256 = Ref.stV v m % 256 := by
 have s0 : Ref.stV v 0 = v % 18446744073709551616 := rfl;have ss : ∀ i, Ref.stV v (i + 1) = Ref.stV v i / 256 := fun _ => rfl
 have gs : ∀ i, shrV v (i + 1) = shrV v i / 256 := fun _ => rfl
 have g0 : shrV v 0 = v := rfl;have e1 : Ref.stV v 1 = shrV v 1 % 72057594037927936 := by rw [ss, gs, s0, g0]; omega
 have e2 : Ref.stV v 2 = shrV v 2 % 281474976710656 := by rw [ss, gs, e1]; omega
 have e3 : Ref.stV v 3 = shrV v 3 % 1099511627776 := by rw [ss, gs, e2]; omega
 have e4 : Ref.stV v 4 = shrV v 4 % 4294967296 := by rw [ss, gs, e3]; omega
 have e5 : Ref.stV v 5 = shrV v 5 % 16777216 := by rw [ss, gs, e4]; omega
 have e6 : Ref.stV v 6 = shrV v 6 % 65536 := by rw [ss, gs, e5]; omega
 have e7 : Ref.stV v 7 = shrV v 7 % 256 := by rw [ss, gs, e6]; omega
 rcases (by omega : m = 0 ∨ m = 1 ∨ m = 2 ∨ m = 3 ∨ m = 4 ∨ m = 5 ∨ m = 6 ∨ m = 7) with rfl | rfl | rfl | rfl | rfl | rfl | rfl | rfl
 ·rw [s0, g0]; omega
 ·rw [e1]; omega
 ·rw [e2]; omega
 ·rw [e3]; omega
 ·rw [e4]; omega
 ·rw [e5]; omega
 ·rw [e6]; omega
 ·rw [e7]; omega
theorem shrV_bd (v : Int) (m : Nat) (h0 : -9223372036854775808 ≤ v) (h1 : v ≤ 9223372036854775807) : -9223372036854775808 ≤ shrV v m ∧ shrV v m ≤ 9223372036854775807 := by
 induction m with
 | zero => exact ⟨h0, h1⟩
 | succ m ih => show _ ≤ shrV v m / 256 ∧ shrV v m / 256 ≤ _; omega
def setTo (mem : List Int) (a : Nat) (v : Int) : Nat → List Int
 | 0 => mem
 | m + 1 => (setTo mem a v m).set (a + m) (shrV v m % 256)
theorem setTo_len (mem : List Int) (a : Nat) (v : Int) (m : Nat) : (setTo mem a v m).length = mem.length := by
 induction m with
 | zero => rfl
 | succ m ih => simp [setTo, ih]
theorem getD_setI (xs : List Int) (i j : Nat) (x : Int) (hi : i < xs.length) : (xs.set i x).getD j 0 = if j = i then x else xs.getD j 0 := by
 simp only [List.getD_eq_getElem?_getD, List.getElem?_set]
 by_cases h : i = j
 ·subst h; simp [hi]
 ·rw [if_neg h, if_neg (fun e => h e.symm)]
theorem setTo_getD (mem : List Int) (a : Nat) (v : Int) (m : Nat) (h : a + m ≤ mem.length) (x : Nat) : (setTo mem a v m).getD x 0 = if a ≤ x ∧ x < a + m then shrV v (x - a) % 256 else mem.getD x 0 := by
 induction m with
 | zero => rw [if_neg (by omega)]; rfl
 | succ m ih =>
   simp only [setTo];rw [getD_setI _ _ _ _ (by rw [setTo_len]; omega), ih (by omega)]
   by_cases h1 : x = a + m
   ·rw [if_pos h1, if_pos (by omega), show x - a = m by omega]
   ·rw [if_neg h1]
    by_cases h2 : a ≤ x ∧ x < a + m
    ·rw [if_pos h2, if_pos (by omega)]
    ·rw [if_neg h2, if_neg (by omega)]
def copyTo (mem : List Int) (a b n : Nat) : List Int := mem.take a ++ ((mem.drop b).take n ++ mem.drop (a + n))
theorem copyTo_len (mem : List Int) (a b n : Nat) (ha : a + n ≤ mem.length) (hb : b + n ≤ mem.length) : (copyTo mem a b n).length = mem.length := by
 simp [copyTo]; omega
theorem copyTo_getD (mem : List Int) (a b n : Nat) (ha : a + n ≤ mem.length) (hb : b + n ≤ mem.length) (x : Nat) : (copyTo mem a b n).getD x 0 = if a ≤ x ∧ x < a + n then mem.getD (b + (x - a)) 0 else mem.getD x 0 := by
 unfold copyTo;simp only [List.getD_eq_getElem?_getD];have l1 : (mem.take a).length = a := by simp; omega
 have l2 : ((mem.drop b).take n).length = n := by simp; omega
 by_cases h1 : x < a
 ·rw [List.getElem?_append_left (by omega), List.getElem?_take, if_pos h1, if_neg (by omega)]
 ·rw [List.getElem?_append_right (by omega), l1]
  by_cases h2 : x < a + n
  ·rw [List.getElem?_append_left (by omega), List.getElem?_take, if_pos (by omega), List.getElem?_drop, if_pos (by omega)]
  ·rw [List.getElem?_append_right (by omega), l2, List.getElem?_drop, if_neg (by omega), show a + n + (x - a - n) = x by omega]
end Go.Proofs.YtjikemhmnkckcabGreat
