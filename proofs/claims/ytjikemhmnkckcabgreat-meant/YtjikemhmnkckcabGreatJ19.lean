import Derived.Test.YtjikemhmnkckcabGreatJ18
namespace Go.Proofs.YtjikemhmnkckcabGreat
open Go.RowKit
def RSt.usable (R : RSt) (q : Int) : Int × Int :=
 if (Ref.block R.st R.cls R.log q).2.2 ≠ 0 then (0, (Ref.block R.st R.cls R.log q).2.2)
 else (16 * (R.log.getD (Ref.given R.log (Ref.block R.st R.cls R.log q).1 (Ref.block R.st R.cls R.log q).2.1).toNat Ref.Ev.no).size, 0)
namespace Ref
def ldU : Nat → Int
 | 0 => 1
 | i + 1 => wrap64 (ldU i * 256)
def ldV (byte : Int → Int) (a : Int) : Nat → Int
 | 0 => 0
 | i + 1 => wrap64 (ldV byte a i + wrap64 (byte (a + i) * ldU i))
end Ref
def RSt.load (R : RSt) (q n : Int) : Int × Int :=
 if Ref.shapeB n = false then (0, 2) else if (R.access q n).1 ≠ 0 then (0, (R.access q n).1) else (Ref.ldV R.byte (q % 72057594037927936) n.toNat, 0)
theorem access_ok {R : RSt} {q n : Int} (h : (R.access q n).1 = 0) (hn : 0 < n) : Ref.tameB q = true ∧ n ≤ 65536 := by
 unfold RSt.access at h
 by_cases ha : n < 0 ∨ 65536 < n
 ·rw [if_pos ha] at h; simp at h
 ·rw [if_neg ha, if_neg (by omega)] at h
  cases ht : Ref.tameB q
  ·rw [ht] at h; simp at h
  ·exact ⟨rfl, by omega⟩
end Go.Proofs.YtjikemhmnkckcabGreat
namespace Go.Proofs.YtjikemhmnkckcabGreat
open Go.RowKit
namespace Ref
def stV (value : Int) : Nat → Int
 | 0 => value % 18446744073709551616
 | i + 1 => stV value i / 256
theorem stV_bd (value : Int) (i : Nat) : 0 ≤ stV value i ∧ stV value i ≤ 18446744073709551615 := by
 induction i with
 | zero => simp only [stV]; omega
 | succ i ih => simp only [stV]; omega
end Ref
def RSt.stores (R : RSt) (a value : Int) : Nat → RSt
 | 0 => R
 | i + 1 => (R.stores a value i).mark (a + i) (Ref.stV value i % 256)
theorem RSt.stores_same (R : RSt) (a value : Int) (i : Nat) : (R.stores a value i).st = R.st ∧ (R.stores a value i).rest = R.rest ∧ (R.stores a value i).cls = R.cls ∧ (R.stores a value i).log = R.log ∧ (R.stores a value i).marks.length = R.marks.length + i := by
 induction i with
 | zero => exact ⟨rfl, rfl, rfl, rfl, rfl⟩
 | succ i ih => exact ⟨ih.1, ih.2.1, ih.2.2.1, ih.2.2.2.1, by show ((R.stores a value i).marks ++ [(a + i, Ref.stV value i % 256, ((R.stores a value i).log.length : Int))]).length = _; rw [List.length_append, ih.2.2.2.2]; rfl⟩
def RSt.storeErr (R : RSt) (q n : Int) : Int := if Ref.shapeB n = false then 2 else (R.access q n).1
def RSt.store (R : RSt) (q n value : Int) : RSt := if R.storeErr q n = 0 then R.stores (q % 72057594037927936) value n.toNat else R
end Go.Proofs.YtjikemhmnkckcabGreat
namespace Go.Proofs.YtjikemhmnkckcabGreat
open Go.RowKit
attribute [local go_sem ↓] Go.wp_at_zero Go.wp_at_succ
end Go.Proofs.YtjikemhmnkckcabGreat
namespace Go.Proofs.YtjikemhmnkckcabGreat
open Go.RowKit
theorem wrap64_bd (x : Int) : -9223372036854775808 ≤ wrap64 x ∧ wrap64 x ≤ 9223372036854775807 := by unfold wrap64; omega
def RSt.moves (R : RSt) (a b : Int) : Nat → RSt
 | 0 => R
 | i + 1 => (R.moves a b i).mark (a + i) (R.byte (b + i))
theorem RSt.moves_same (R : RSt) (a b : Int) (i : Nat) : (R.moves a b i).st = R.st ∧ (R.moves a b i).rest = R.rest ∧ (R.moves a b i).cls = R.cls ∧ (R.moves a b i).log = R.log ∧ (R.moves a b i).marks.length = R.marks.length + i := by
 induction i with
 | zero => exact ⟨rfl, rfl, rfl, rfl, rfl⟩
 | succ i ih => exact ⟨ih.1, ih.2.1, ih.2.2.1, ih.2.2.2.1, by show ((R.moves a b i).marks ++ [(a + i, R.byte (b + i), ((R.moves a b i).log.length : Int))]).length = _; rw [List.length_append, ih.2.2.2.2]; rfl⟩
def RSt.moveErr (R : RSt) (tgt from_ n : Int) : Int := if (R.access from_ n).1 ≠ 0 then (R.access from_ n).1 else (R.access tgt n).1
def RSt.move (R : RSt) (tgt from_ n : Int) : RSt := if R.moveErr tgt from_ n = 0 then R.moves (tgt % 72057594037927936) (from_ % 72057594037927936) n.toNat else R
end Go.Proofs.YtjikemhmnkckcabGreat
