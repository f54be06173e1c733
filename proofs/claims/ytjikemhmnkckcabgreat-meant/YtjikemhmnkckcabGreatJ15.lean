import Derived.Test.YtjikemhmnkckcabGreatJ14
namespace Go.Proofs.YtjikemhmnkckcabGreat
namespace Ref
theorem getD_old (log : List Ev) (e : Ev) (i : Nat) (h : i < log.length) : (log ++ [e]).getD i Ev.no = log.getD i Ev.no := by
 rw [List.getD_eq_getElem?_getD, List.getD_eq_getElem?_getD, List.getElem?_append_left h]
theorem getD_new (log : List Ev) (e : Ev) : (log ++ [e]).getD log.length Ev.no = e := by simp
theorem givenTo_old (log : List Ev) (e : Ev) (k s : Int) (m : Nat) (h : m ≤ log.length) : givenTo (log ++ [e]) k s m = givenTo log k s m := by
 induction m with
 | zero => rfl
 | succ m ih => simp only [givenTo]; rw [getD_old log e m (by omega), ih (by omega)]
theorem given_snoc (log : List Ev) (e : Ev) (k s : Int) : given (log ++ [e]) k s = if e.gives k s then (log.length : Int) else given log k s := by
 unfold given;rw [List.length_append, List.length_singleton];simp only [givenTo];rw [getD_new, givenTo_old log e k s log.length (Nat.le_refl _)]
theorem firstFrom_snoc (p : Nat → Bool) (f i : Nat) : firstFrom p (f + 1) i = if 0 ≤ firstFrom p f i then firstFrom p f i else if p (i + f) then ((i + f : Nat) : Int) else -1 := by
 induction f generalizing i with
 | zero =>
   simp only [firstFrom, Nat.add_zero];rw [if_neg (show ¬ (0 : Int) ≤ -1 by omega)]
 | succ f ih =>
   have e1 : firstFrom p (f + 1 + 1) i = if p i then (i : Int) else firstFrom p (f + 1) (i + 1) := rfl
   have e2 : firstFrom p (f + 1) i = if p i then (i : Int) else firstFrom p f (i + 1) := rfl
   rw [e1, e2]
   by_cases h : p i = true
   ·simp [h]
   ·rw [if_neg h, if_neg h, ih (i + 1), show i + 1 + f = i + (f + 1) by omega]
theorem firstFrom_congr (p q : Nat → Bool) (f i : Nat) (h : ∀ j, i ≤ j → j < i + f → p j = q j) : firstFrom p f i = firstFrom q f i := by
 induction f generalizing i with
 | zero => rfl
 | succ f ih =>
   simp only [firstFrom];rw [h i (Nat.le_refl _) (by omega), ih (i + 1) (fun j h1 h2 => h j (by omega) (by omega))]
theorem countFrom_snoc (p : Nat → Bool) (f i : Nat) : countFrom p (f + 1) i = countFrom p f i + if p (i + f) then 1 else 0 := by
 induction f generalizing i with
 | zero => simp [countFrom]
 | succ f ih =>
   have e1 : countFrom p (f + 1 + 1) i = (if p i then 1 else 0) + countFrom p (f + 1) (i + 1) := rfl;have e2 : countFrom p (f + 1) i = (if p i then 1 else 0) + countFrom p f (i + 1) := rfl;rw [e1, e2, ih (i + 1), show i + 1 + f = i + (f + 1) by omega]; omega
theorem countFrom_congr (p q : Nat → Bool) (f i : Nat) (h : ∀ j, i ≤ j → j < i + f → p j = q j) : countFrom p f i = countFrom q f i := by
 induction f generalizing i with
 | zero => rfl
 | succ f ih =>
   simp only [countFrom];rw [h i (Nat.le_refl _) (by omega), ih (i + 1) (fun j h1 h2 => h j (by omega) (by omega))]
theorem gone_gives (log : List Ev) (e : Ev) (k s : Int) (h : e.gives k s = true) : gone (log ++ [e]) k s = -1 := by
 unfold gone;rw [given_snoc, if_pos h, List.length_append, List.length_singleton, show log.length + 1 - ((log.length : Int) + 1).toNat = 0 by omega];rfl
theorem gone_snoc (log : List Ev) (e : Ev) (k s : Int) (h : e.gives k s = false) : gone (log ++ [e]) k s = if 0 ≤ gone log k s then gone log k s else if e.takes k s then (log.length : Int) else -1 := by
 have g1 := given_lo log k s;have g2 := given_hi log k s;unfold gone;rw [given_snoc, if_neg (by rw [h]; decide), List.length_append, List.length_singleton, show log.length + 1 - (given log k s + 1).toNat = (log.length - (given log k s + 1).toNat) + 1 by omega, firstFrom_snoc]
 have ec : firstFrom (fun i => ((log ++ [e]).getD i Ev.no).takes k s) (log.length - (given log k s + 1).toNat) (given log k s + 1).toNat = firstFrom (fun i => (log.getD i Ev.no).takes k s) (log.length - (given log k s + 1).toNat) (given log k s + 1).toNat :=
  firstFrom_congr _ _ _ _ (fun j _ h2 => by rw [getD_old log e j (by omega)])
 rw [ec, show (given log k s + 1).toNat + (log.length - (given log k s + 1).toNat) = log.length by omega];rw [getD_new]
theorem since_old (log : List Ev) (e : Ev) (k s : Int) (h : e.gives k s = false) (hg : 0 ≤ gone log k s) : since (log ++ [e]) k s = since log k s + if e.frees k then 1 else 0 := by
 have g2 := gone_hi log k s;unfold since;rw [gone_snoc log e k s h, if_pos hg, List.length_append, List.length_singleton, show log.length + 1 - (gone log k s + 1).toNat = (log.length - (gone log k s + 1).toNat) + 1 by omega, countFrom_snoc]
 have ec : countFrom (fun i => ((log ++ [e]).getD i Ev.no).frees k) (log.length - (gone log k s + 1).toNat) (gone log k s + 1).toNat = countFrom (fun i => (log.getD i Ev.no).frees k) (log.length - (gone log k s + 1).toNat) (gone log k s + 1).toNat :=
  countFrom_congr _ _ _ _ (fun j _ h2 => by rw [getD_old log e j (by omega)])
 rw [ec, show (gone log k s + 1).toNat + (log.length - (gone log k s + 1).toNat) = log.length by omega];rw [getD_new]
theorem since_new (log : List Ev) (e : Ev) (k s : Int) (h : gone (log ++ [e]) k s = (log.length : Int)) : since (log ++ [e]) k s = 0 := by
 unfold since;rw [h, List.length_append, List.length_singleton, show log.length + 1 - ((log.length : Int) + 1).toNat = 0 by omega];rfl
end Ref
end Go.Proofs.YtjikemhmnkckcabGreat
namespace Go.Proofs.YtjikemhmnkckcabGreat
open Go.RowKit
theorem tame_iff (p : Int) : Ref.tameB p = true ↔ 0 ≤ p ∧ p / 72057594037927936 ≤ 15 ∧ p % 72057594037927936 ≤ 65535 := by
 show ((decide (0 ≤ p) && decide (p / 72057594037927936 ≤ 15)) && decide (p % 72057594037927936 ≤ 65535)) = true ↔ _;rw [Bool.and_eq_true, Bool.and_eq_true, decide_eq_true_iff, decide_eq_true_iff, decide_eq_true_iff, and_assoc]
theorem tame_not {p : Int} (h : Ref.tameB p = false) : p < 0 ∨ 15 < p / 72057594037927936 ∨ 65535 < p % 72057594037927936 := by
 have h2 : ¬ (0 ≤ p ∧ p / 72057594037927936 ≤ 15 ∧ p % 72057594037927936 ≤ 65535) := by rw [← tame_iff, h]; decide
 omega
def ghad (x : GSlot) (t : Int) : Bool := x.state != 2 && x.tag == t
def slotV (x : GSlot) : Value := .agg #[.int .i64 x.state, .int .i64 x.tag, .int .i64 x.bytes, .int .i64 x.rest, .int .i64 x.alloc, .int .i64 x.gone]
set_option maxRecDepth 100000 in
theorem had_any (x : GSlot) (t : Int) (w : World) :
 Calls Tryz.prog 158 #[slotV x, .int .i64 t] w fun e w' => e = .returned (.bool (ghad x t)) ∧ Below w.heap.size w w' := by
 unfold slotV;have HG : Hid (ghad x t = (x.state != 2 && x.tag == t)) := rfl
 cases z1 : (x.state != 2)
 ·have HF : Hid (ghad x t = false) := by show _ = _; rw [HG.out, z1]; rfl
  clear HG;go_enter Tryz.func158, Tryz.ntmps158;go_wp2;go_ret;exact ⟨by rw [HF.out]; rfl, (Below.refl _ _).alloc (Nat.le_refl _) _⟩
 ·have HF : Hid (ghad x t = (x.tag == t)) := by show _ = _; rw [HG.out, z1]; rfl
  clear HG;go_enter Tryz.func158, Tryz.ntmps158;go_wp2;go_ret;exact ⟨by rw [HF.out]; rfl, (Below.refl _ _).alloc (Nat.le_refl _) _⟩
end Go.Proofs.YtjikemhmnkckcabGreat
