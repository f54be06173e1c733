import Derived.Test.YtjikemhmnkckcabJ31
import Derived.Test.YtjikemhmnkckcabJ22
import Derived.Test.YtjikemhmnkckcabJ13
/- The document's Usable and Load. -/
namespace Go.Proofs.Ytjikemhmnkckcab
open Go.RowKit

def RSt.usable (R : RSt) (q : Int) : Int × Int :=
  if (Ref.block R.st R.cls R.log q).2.2 ≠ 0 then (0, (Ref.block R.st R.cls R.log q).2.2)
  else (16 * (R.log.getD (Ref.given R.log (Ref.block R.st R.cls R.log q).1 (Ref.block R.st R.cls R.log q).2.1).toNat Ref.Ev.no).size, 0)
namespace Ref
/-- the unit, the number that were read after i bytes -/
def ldU : Nat → Int
  | 0 => 1
  | i + 1 => wrap64 (ldU i * 256)
def ldV (byte : Int → Int) (a : Int) : Nat → Int
  | 0 => 0
  | i + 1 => wrap64 (ldV byte a i + wrap64 (byte (a + i) * ldU i))
end Ref
def RSt.load (R : RSt) (q n : Int) : Int × Int :=
  if Ref.shapeB n = false then (0, 2) else if (R.access q n).1 ≠ 0 then (0, (R.access q n).1) else (Ref.ldV R.byte (q % 72057594037927936) n.toNat, 0)

theorem access_ok {R : RSt} {q n : Int} (h : (R.access q n).1 = 0) (hn : 0 < n) : Ref.tameB q = true ∧ n ≤ 65536 := by
  unfold RSt.access at h
  by_cases ha : n < 0 ∨ 65536 < n
  · rw [if_pos ha] at h; simp at h
  · rw [if_neg ha, if_neg (by omega)] at h
    cases ht : Ref.tameB q
    · rw [ht] at h; simp at h
    · exact ⟨rfl, by omega⟩

end Go.Proofs.Ytjikemhmnkckcab
/- The document's Store. -/
namespace Go.Proofs.Ytjikemhmnkckcab
open Go.RowKit

namespace Ref
/-- what is left of the value after i bytes -/
def stV (value : Int) : Nat → Int
  | 0 => value % 18446744073709551616
  | i + 1 => stV value i / 256
theorem stV_bd (value : Int) (i : Nat) : 0 ≤ stV value i ∧ stV value i ≤ 18446744073709551615 := by
  induction i with
  | zero => simp only [stV]; omega
  | succ i ih => simp only [stV]; omega
end Ref
def RSt.stores (R : RSt) (a value : Int) : Nat → RSt
  | 0 => R
  | i + 1 => (R.stores a value i).mark (a + i) (Ref.stV value i % 256)
theorem RSt.stores_same (R : RSt) (a value : Int) (i : Nat) : (R.stores a value i).st = R.st ∧ (R.stores a value i).rest = R.rest ∧ (R.stores a value i).cls = R.cls ∧ (R.stores a value i).log = R.log ∧ (R.stores a value i).marks.length = R.marks.length + i := by
  induction i with
  | zero => exact ⟨rfl, rfl, rfl, rfl, rfl⟩
  | succ i ih => exact ⟨ih.1, ih.2.1, ih.2.2.1, ih.2.2.2.1, by show ((R.stores a value i).marks ++ [(a + i, Ref.stV value i % 256, ((R.stores a value i).log.length : Int))]).length = _; rw [List.length_append, ih.2.2.2.2]; rfl⟩
def RSt.storeErr (R : RSt) (q n : Int) : Int := if Ref.shapeB n = false then 2 else (R.access q n).1
def RSt.store (R : RSt) (q n value : Int) : RSt := if R.storeErr q n = 0 then R.stores (q % 72057594037927936) value n.toNat else R

end Go.Proofs.Ytjikemhmnkckcab
namespace Go.Proofs.Ytjikemhmnkckcab
open Go.RowKit
attribute [local go_sem ↓] Go.wp_at_zero Go.wp_at_succ

set_option maxHeartbeats 400000 in
theorem num_any (e : Int) (w : World) : Calls Try.prog 10 #[.int .i64 e] w fun e' w' => e' = .returned (.int .i64 e) ∧ w = w' := by
  go_enter Try.func10, Try.ntmps10
  go_wp2
  go_ret
  exact ⟨rfl, rfl⟩

def WFoot (q ph : Nat) (gc : Value) (bb : Nat) (G : GSt) (pr : Nat) (vc vl vm : Value) (vp : Value) (b : Nat) : Prop := b = q ∨ GFoot ph gc bb G b ∨ RFoot pr vc vl vm b ∨ vp.ownBlock = some b

end Go.Proofs.Ytjikemhmnkckcab
