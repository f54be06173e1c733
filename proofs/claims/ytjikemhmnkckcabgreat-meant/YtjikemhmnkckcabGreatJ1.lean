import Derived.WalkKit
import Derived.WalkSpells
import Derived.Test.YtjikemhmnkckcabGreatProg
import Derived.BigQuiet
import Derived.Deep.QuietTactic
namespace Go.Proofs.YtjikemhmnkckcabGreat
namespace Ref
structure Ev where
 back : Bool
 cls : Int
 slot : Int
 tag : Int
 size : Int
 site : Int
def Ev.no : Ev := ⟨false, 0, 0, 0, 0, 0⟩
def Ev.gives (e : Ev) (k s : Int) : Bool := !e.back && e.cls == k && e.slot == s
def Ev.takes (e : Ev) (k s : Int) : Bool := e.back && e.cls == k && e.slot == s
def givenTo (log : List Ev) (k s : Int) : Nat → Int
 | 0 => -1
 | n + 1 => if (log.getD n Ev.no).gives k s then n else givenTo log k s n
def given (log : List Ev) (k s : Int) : Int := givenTo log k s log.length
def firstFrom (p : Nat → Bool) : Nat → Nat → Int
 | 0, _ => -1
 | f + 1, i => if p i then i else firstFrom p f (i + 1)
def gone (log : List Ev) (k s : Int) : Int :=
 firstFrom (fun i => (log.getD i Ev.no).takes k s) (log.length - (given log k s + 1).toNat) (given log k s + 1).toNat
def countFrom (p : Nat → Bool) : Nat → Nat → Nat
 | 0, _ => 0
 | f + 1, i => (if p i then 1 else 0) + countFrom p f (i + 1)
def state (log : List Ev) (k s : Int) : Int := if given log k s < 0 then 2 else if gone log k s < 0 then 3 else 4
def last (log : List Ev) (k s : Int) : Int := if given log k s < 0 then 0 else (log.getD (given log k s).toNat Ev.no).tag
def Ev.frees (e : Ev) (k : Int) : Bool := e.back && e.cls == k
def since (log : List Ev) (k s : Int) : Nat :=
 countFrom (fun i => (log.getD i Ev.no).frees k) (log.length - (gone log k s + 1).toNat) (gone log k s + 1).toNat
def rests (log : List Ev) (rest k s : Int) : Bool := if gone log k s < 0 then false else decide ((since log k s : Int) < rest)
theorem givenTo_lo (log : List Ev) (k s : Int) (n : Nat) : -1 ≤ givenTo log k s n := by
 induction n with
 | zero => simp [givenTo]
 | succ n ih => simp only [givenTo]; split <;> omega
theorem givenTo_hi (log : List Ev) (k s : Int) (n : Nat) : givenTo log k s n < n := by
 induction n with
 | zero => simp [givenTo]
 | succ n ih => simp only [givenTo]; split <;> omega
theorem given_lo (log : List Ev) (k s : Int) : -1 ≤ given log k s := givenTo_lo _ _ _ _
theorem given_hi (log : List Ev) (k s : Int) : given log k s < log.length := givenTo_hi _ _ _ _
theorem firstFrom_lo (p : Nat → Bool) (f i : Nat) : -1 ≤ firstFrom p f i := by
 induction f generalizing i with
 | zero => simp [firstFrom]
 | succ f ih => simp only [firstFrom]; split; · omega
                ·exact ih _
theorem firstFrom_hi (p : Nat → Bool) (f i : Nat) : firstFrom p f i < (i + f : Nat) := by
 induction f generalizing i with
 | zero => simp [firstFrom]; omega
 | succ f ih => simp only [firstFrom]; split; · omega
                ·have := ih (i + 1); omega
theorem firstFrom_at (p : Nat → Bool) (f i : Nat) (h : 0 ≤ firstFrom p f i) : (i : Int) ≤ firstFrom p f i ∧ p (firstFrom p f i).toNat = true := by
 induction f generalizing i with
 | zero => simp [firstFrom] at h
 | succ f ih =>
   simp only [firstFrom] at h ⊢
   split
   ·exact ⟨Int.le_refl _, by simpa⟩
   ·rename_i hp
    rw [if_neg hp] at h;have := ih (i + 1) h;exact ⟨by omega, this.2⟩
theorem firstFrom_no (p : Nat → Bool) (f i : Nat) (h : firstFrom p f i = -1) : ∀ j, i ≤ j → j < i + f → p j = false := by
 induction f generalizing i with
 | zero => intro j h1 h2; omega
 | succ f ih =>
   intro j h1 h2;simp only [firstFrom] at h
   by_cases hp : p i = true
   ·rw [if_pos hp] at h; omega
   ·rw [if_neg hp] at h
    by_cases e : j = i
    ·subst e; simpa using hp
    ·exact ih (i + 1) h j (by omega) (by omega)
theorem gone_lo (log : List Ev) (k s : Int) : -1 ≤ gone log k s := firstFrom_lo _ _ _
theorem gone_hi (log : List Ev) (k s : Int) : gone log k s < log.length := by
 have h := firstFrom_hi (fun i => (log.getD i Ev.no).takes k s) (log.length - (given log k s + 1).toNat) (given log k s + 1).toNat;have h1 := given_lo log k s;have h2 := given_hi log k s;unfold gone;omega
end Ref
end Go.Proofs.YtjikemhmnkckcabGreat
namespace Go.Proofs.YtjikemhmnkckcabGreat
open Go.RowKit
theorem flat_get {α : Type} (enc : α → List Value) (m : Nat) (hm : ∀ x, (enc x).length = m) (xs : List α) (i j : Nat) (hj : j < m) :
 (xs.flatMap enc)[i * m + j]? = (xs[i]?).bind fun x => (enc x)[j]? := by
 induction xs generalizing i with
 | nil => simp
 | cons x xs ih =>
   cases i with
   | zero => simp [List.flatMap_cons, List.getElem?_append_left (show j < (enc x).length by rw [hm]; exact hj)]
   | succ i =>
     rw [List.flatMap_cons, List.getElem?_append_right (by rw [hm, Nat.succ_mul]; omega), hm, show (i + 1) * m + j - m = i * m + j by rw [Nat.succ_mul]; omega, ih i];simp
theorem flat_len {α : Type} (enc : α → List Value) (m : Nat) (hm : ∀ x, (enc x).length = m) (xs : List α) : (xs.flatMap enc).length = xs.length * m := by
 induction xs with
 | nil => simp
 | cons x xs ih => rw [List.flatMap_cons, List.length_append, hm, ih, List.length_cons, Nat.succ_mul]; omega
theorem row_form {w : World} {e : TypeId} {m : Nat} {v : Value} {n : Nat} {xs : List Value} (h : w.ownsRow 0 e m v n xs) :
 (v = .slice none 0 0 ∧ n = 0) ∨ ∃ g cap, v = .slice (some ⟨g, 0, none⟩) n cap ∧ n ≤ cap ∧ cap ≤ maxLen ∧ g < w.heap.size ∧ (∀ j u, xs[j]? = some u → w.cell? ⟨g, j, none⟩ = some u) ∧ (∀ j, w.frozen? ⟨g, j, none⟩ = false) := by
 rcases h.2 with h0 | ⟨g, cap, cur, hv, _, hg, hnc, hcm, hcs, htake⟩
 ·exact .inl h0
 ·refine .inr ⟨g, cap, hv, hnc, hcm, (Array.getElem?_eq_some_iff.1 hg).1, fun j u hu => ?_, fun j => by simp [World.frozen?, hg]⟩;rw [cell_of_row w g j cur e (0, 0) hg];rw [← htake, List.getElem?_take] at hu
  split at hu
  ·simpa using hu
  ·cases hu
theorem row_open {w : World} {e : TypeId} {m : Nat} {v : Value} {n : Nat} {xs : List Value} (h : w.ownsRow 0 e m v n xs) :
 ∃ a cap, v = .slice a n cap ∧ n ≤ cap ∧ cap ≤ maxLen ∧ (0 < n → ∃ g, a = some ⟨g, 0, none⟩ ∧ g < w.heap.size ∧ (∀ j u, xs[j]? = some u → w.cell? ⟨g, j, none⟩ = some u) ∧ (∀ j, w.frozen? ⟨g, j, none⟩ = false)) := by
 rcases row_form h with ⟨rfl, rfl⟩ | ⟨g, cap, rfl, h1, h2, h3, h4, h5⟩
 ·exact ⟨none, 0, rfl, Nat.le_refl _, by simp [maxLen], fun h => absurd h (by omega)⟩
 ·exact ⟨_, cap, rfl, h1, h2, fun _ => ⟨g, rfl, h3, h4, h5⟩⟩
structure Kept (w w' : World) (S : Nat → Prop) : Prop where
 os : w'.os = w.os
 tape : w'.tape = w.tape
 output : w'.output = w.output
 size : w.heap.size ≤ w'.heap.size
 block : ∀ k, k < w.heap.size → ¬ S k → w'.heap[k]? = w.heap[k]?
theorem Kept.of_below {w w' : World} (h : Below w.heap.size w w') (S : Nat → Prop) : Kept w w' S := ⟨h.os, h.tape, h.output, h.size, fun k hk _ => h.block k hk⟩
theorem Kept.trans {a b c : World} {S : Nat → Prop} (h : Kept a b S) (g : Kept b c S) : Kept a c S :=
 ⟨g.os.trans h.os, g.tape.trans h.tape, g.output.trans h.output, Nat.le_trans h.size g.size, fun k hk hs => (g.block k (Nat.lt_of_lt_of_le hk h.size) hs).trans (h.block k hk hs)⟩
theorem Kept.mono {a b : World} {S T : Nat → Prop} (h : Kept a b S) (hs : ∀ k, k < a.heap.size → S k → T k) : Kept a b T :=
 ⟨h.os, h.tape, h.output, h.size, fun k hk ht => h.block k hk (fun x => ht (hs k hk x))⟩
theorem row_kept {w w' : World} {e : TypeId} {m : Nat} {v : Value} {n : Nat} {xs : List Value} (h : w.ownsRow 0 e m v n xs) (hk : ∀ g, v.ownBlock = some g → w'.heap[g]? = w.heap[g]?) : w'.ownsRow 0 e m v n xs := by
 refine ⟨h.1, ?_⟩
 rcases h.2 with h0 | ⟨g, cap, cur, hv, hb, hg, rest⟩
 ·exact .inl h0
 ·exact .inr ⟨g, cap, cur, hv, hb, by rw [hk g (by rw [hv]; rfl)]; exact hg, rest⟩
theorem row_below {w w' : World} {B : Nat} {e : TypeId} {m : Nat} {v : Value} {n : Nat} {xs : List Value} (h : w.ownsRow 0 e m v n xs) (hb : Below B w w') (hB : ∀ g, v.ownBlock = some g → g < B) : w'.ownsRow 0 e m v n xs :=
 row_kept h fun g hg => hb.block g (hB g hg)
theorem row_lt {w : World} {e : TypeId} {m : Nat} {v : Value} {n : Nat} {xs : List Value} (h : w.ownsRow 0 e m v n xs) {g : Nat} (hg : v.ownBlock = some g) : g < w.heap.size := (h.lt g hg).2
def Blk (w : World) (b : Nat) (t : TypeId) (xs : List Value) : Prop := w.heap[b]? = some (.cells xs.toArray t (0, 0))
theorem Blk.cell {w : World} {b : Nat} {t : TypeId} {xs : List Value} (h : Blk w b t xs) {j : Nat} {v : Value} (hj : xs[j]? = some v) : w.cell? ⟨b, j, none⟩ = some v := by
 rw [cell_of_row w b j _ t (0, 0) h]; simpa using hj
theorem Blk.frozen {w : World} {b : Nat} {t : TypeId} {xs : List Value} (h : Blk w b t xs) (j : Nat) : w.frozen? ⟨b, j, none⟩ = false := by
 have h' : w.heap[b]? = some (.cells xs.toArray t (0, 0)) := h;simp [World.frozen?, h']
theorem Blk.lt {w : World} {b : Nat} {t : TypeId} {xs : List Value} (h : Blk w b t xs) : b < w.heap.size := (Array.getElem?_eq_some_iff.1 (show w.heap[b]? = _ from h)).1
theorem Blk.below {w w' : World} {B b : Nat} {t : TypeId} {xs : List Value} (h : Blk w b t xs) (hb : Below B w w') (hB : b < B) : Blk w' b t xs := (hb.block b hB).trans h
theorem Blk.alloc (w : World) (t : TypeId) (xs : List Value) : Blk (w.alloc (.cells xs.toArray t)) w.heap.size t xs := heap_alloc_new w _
theorem Blk.setCell {w : World} {b : Nat} {t : TypeId} {xs : List Value} (h : Blk w b t xs) (j : Nat) (v : Value) : Blk (w.setCell ⟨b, j, none⟩ v) b t (xs.set j v) := by
 have h' : w.heap[b]? = some (.cells xs.toArray t (0, 0)) := h;have hlt := h.lt;simp only [Blk, World.setCell];rw [Array.getElem?_modify];simp [h']
theorem Blk.setCell_other {w : World} {b : Nat} {t : TypeId} {xs : List Value} (h : Blk w b t xs) (a : Addr) (v : Value) (hne : b ≠ a.block) : Blk (w.setCell a v) b t xs :=
 (Below.heap_setCell w a v b hne).trans h
structure RSt where
 st : Int
 rest : Int
 cls : List (Int × Int)
 log : List Ref.Ev
 marks : List (Int × Int × Int)
def clsCells (c : Int × Int) : List Value := [.int .i64 c.1, .int .i64 c.2]
theorem cls_cells {w : World} {g : Nat} {cls : List (Int × Int)} (hc : ∀ j u, (cls.flatMap clsCells)[j]? = some u → w.cell? ⟨g, j, none⟩ = some u) (i : Nat) (hi : i < cls.length) :
 w.cell? ⟨g, i * 2, none⟩ = some (.int .i64 (cls.getD i (0, 0)).1) ∧ w.cell? ⟨g, i * 2 + 1, none⟩ = some (.int .i64 (cls.getD i (0, 0)).2) := by
 have h6 : ∀ j, j < 2 → (cls.flatMap clsCells)[i * 2 + j]? = (clsCells (cls.getD i (0, 0)))[j]? := fun j hj => by
  rw [flat_get clsCells 2 (fun _ => rfl) cls i j hj, List.getElem?_eq_getElem hi];simp [List.getD_eq_getElem?_getD, List.getElem?_eq_getElem hi]
 have hx := fun j (hj : j < 2) u hu => hc (i * 2 + j) u (by rw [h6 j hj]; exact hu)
 exact ⟨hx 0 (by omega) _ rfl, hx 1 (by omega) _ rfl⟩
end Go.Proofs.YtjikemhmnkckcabGreat
namespace Go.Proofs.YtjikemhmnkckcabGreat
namespace Cf
def gr (cls : List (Int × Int)) (i : Nat) : Int := (cls.getD i (0, 0)).1
def sl (cls : List (Int × Int)) (i : Nat) : Int := (cls.getD i (0, 0)).2
def allTo (p : Nat → Bool) : Nat → Bool
 | 0 => true
 | n + 1 => allTo p n && p n
theorem allTo_iff (p : Nat → Bool) (n : Nat) : allTo p n = true ↔ ∀ i, i < n → p i = true := by
 induction n with
 | zero => simp [allTo]
 | succ n ih =>
   simp only [allTo, Bool.and_eq_true, ih]
   constructor
   ·rintro ⟨h1, h2⟩ i hi
    by_cases e : i = n
    ·subst e; exact h2
    ·exact h1 i (by omega)
   ·intro h;exact ⟨fun i hi => h i (by omega), h n (by omega)⟩
theorem allTo_false (p : Nat → Bool) {n i : Nat} (hi : i < n) (h : p i = false) : allTo p n = false := by
 cases e : allTo p n
 ·rfl
 ·rw [(allTo_iff p n).1 e i hi] at h; cases h
def entryB (cls : List (Int × Int)) (i : Nat) : Bool :=
 decide (i < 4) && decide (1 ≤ gr cls i) && decide (gr cls i ≤ 8) && decide (1 ≤ sl cls i) && decide (sl cls i ≤ 16) && allTo (fun j => decide (gr cls j < gr cls i)) i
def headB (st rest : Int) : Bool := decide (0 ≤ st) && decide (st ≤ 16) && decide (0 ≤ rest) && decide (rest ≤ 16)
def validB (st rest : Int) (cls : List (Int × Int)) : Bool := headB st rest && (allTo (entryB cls) cls.length && decide (0 < cls.length))
structure Valid (st rest : Int) (cls : List (Int × Int)) : Prop where
 st0 : 0 ≤ st
 st1 : st ≤ 16
 re0 : 0 ≤ rest
 re1 : rest ≤ 16
 n0 : 0 < cls.length
 n1 : cls.length ≤ 4
 g0 : ∀ i, i < cls.length → 1 ≤ gr cls i
 g1 : ∀ i, i < cls.length → gr cls i ≤ 8
 s0 : ∀ i, i < cls.length → 1 ≤ sl cls i
 s1 : ∀ i, i < cls.length → sl cls i ≤ 16
 up : ∀ i j, i < cls.length → j < i → gr cls j < gr cls i
theorem valid_of {st rest : Int} {cls : List (Int × Int)} (h : validB st rest cls = true) : Valid st rest cls := by
 simp only [validB, headB, Bool.and_eq_true, decide_eq_true_eq, allTo_iff] at h;obtain ⟨⟨⟨⟨h1, h2⟩, h3⟩, h4⟩, h5, h6⟩ := h
 have he : ∀ i, i < cls.length → i < 4 ∧ 1 ≤ gr cls i ∧ gr cls i ≤ 8 ∧ 1 ≤ sl cls i ∧ sl cls i ≤ 16 ∧ ∀ j, j < i → gr cls j < gr cls i := fun i hi => by
  have := h5 i hi;simp only [entryB, Bool.and_eq_true, decide_eq_true_eq, allTo_iff] at this;obtain ⟨⟨⟨⟨⟨a, b⟩, c⟩, d⟩, e⟩, f⟩ := this;exact ⟨a, b, c, d, e, f⟩
 refine ⟨h1, h2, h3, h4, h6, ?_, fun i hi => (he i hi).2.1, fun i hi => (he i hi).2.2.1, fun i hi => (he i hi).2.2.2.1, fun i hi => (he i hi).2.2.2.2.1, fun i j hi hj => (he i hi).2.2.2.2.2 j hj⟩;have := (he (cls.length - 1) (by omega)).1;omega
theorem validB_of {st rest : Int} {cls : List (Int × Int)} (h : Valid st rest cls) : validB st rest cls = true := by
 simp only [validB, headB, Bool.and_eq_true, decide_eq_true_eq, allTo_iff];refine ⟨⟨⟨⟨h.st0, h.st1⟩, h.re0⟩, h.re1⟩, fun i hi => ?_, h.n0⟩;have := h.n1;simp only [entryB, Bool.and_eq_true, decide_eq_true_eq, allTo_iff];exact ⟨⟨⟨⟨⟨by omega, h.g0 i hi⟩, h.g1 i hi⟩, h.s0 i hi⟩, h.s1 i hi⟩, fun j hj => h.up i j hi hj⟩
def gran (st : Int) (cls : List (Int × Int)) : Nat → Int
 | 0 => 1 + st + 1
 | k + 1 => gran st cls k + sl cls k * gr cls k + 1
def begin_ (st : Int) (cls : List (Int × Int)) (k : Nat) (s : Int) : Int := 16 * (gran st cls k + s * gr cls k)
theorem prod_bd {a b : Int} (a0 : 0 ≤ a) (a1 : a ≤ 16) (b0 : 0 ≤ b) (b1 : b ≤ 8) : 0 ≤ a * b ∧ a * b ≤ 128 :=
 ⟨Int.mul_nonneg a0 b0, Int.le_trans (Int.mul_le_mul_of_nonneg_right a1 b0) (by omega)⟩
theorem gran_bd {st rest : Int} {cls : List (Int × Int)} (h : Valid st rest cls) (k : Nat) (hk : k ≤ cls.length) : 2 ≤ gran st cls k ∧ gran st cls k ≤ 18 + 129 * k := by
 induction k with
 | zero => have := h.st0; have := h.st1; simp only [gran]; omega
 | succ k ih =>
   have h1 := ih (by omega);have h2 := prod_bd (by have := h.s0 k (by omega); omega) (h.s1 k (by omega)) (by have := h.g0 k (by omega); omega) (h.g1 k (by omega));simp only [gran]; omega
theorem begin_bd {st rest : Int} {cls : List (Int × Int)} (h : Valid st rest cls) (k : Nat) (hk : k < cls.length) (s : Int) (s0 : 0 ≤ s) (s1 : s ≤ 16) : 32 ≤ begin_ st cls k s ∧ begin_ st cls k s ≤ 8640 := by
 have h1 := gran_bd h k (by omega);have h2 := prod_bd s0 s1 (by have := h.g0 k hk; omega) (h.g1 k hk);have h3 := h.n1;unfold begin_; omega
def inS (st : Int) (cls : List (Int × Int)) (addr : Int) (k s : Nat) : Bool := decide (begin_ st cls k s ≤ addr) && decide (addr < begin_ st cls k s + 16 * gr cls k)
def slotIn (st : Int) (cls : List (Int × Int)) (addr : Int) (k : Nat) : Int := Ref.firstFrom (inS st cls addr k) (sl cls k).toNat 0
def slotFrom (st : Int) (cls : List (Int × Int)) (addr : Int) : Nat → Nat → Int × Int
 | 0, _ => (-1, -1)
 | f + 1, k => if 0 ≤ slotIn st cls addr k then ((k : Int), slotIn st cls addr k) else slotFrom st cls addr f (k + 1)
def slot (st : Int) (cls : List (Int × Int)) (addr : Int) : Int × Int := slotFrom st cls addr cls.length 0
theorem slotIn_bd (st : Int) (cls : List (Int × Int)) (addr : Int) (k : Nat) (h : 0 ≤ slotIn st cls addr k) : (slotIn st cls addr k).toNat < (sl cls k).toNat ∧ inS st cls addr k (slotIn st cls addr k).toNat = true := by
 have h1 := Ref.firstFrom_hi (inS st cls addr k) (sl cls k).toNat 0;have h2 := Ref.firstFrom_at (inS st cls addr k) (sl cls k).toNat 0 h;unfold slotIn at h ⊢;exact ⟨by omega, h2.2⟩
theorem slotFrom_bd (st : Int) (cls : List (Int × Int)) (addr : Int) (f k : Nat) : slotFrom st cls addr f k = (-1, -1) ∨
 ∃ i j : Nat, slotFrom st cls addr f k = ((i : Int), (j : Int)) ∧ k ≤ i ∧ i < k + f ∧ j < (sl cls i).toNat ∧ inS st cls addr i j = true := by
 induction f generalizing k with
 | zero => exact .inl rfl
 | succ f ih =>
   simp only [slotFrom]
   by_cases h : 0 ≤ slotIn st cls addr k
   ·rw [if_pos h];have hb := slotIn_bd st cls addr k h;exact .inr ⟨k, (slotIn st cls addr k).toNat, by rw [Int.toNat_of_nonneg h], by omega, by omega, hb.1, hb.2⟩
   ·rw [if_neg h]
    rcases ih (k + 1) with h1 | ⟨i, j, h1, h2, h3, h4⟩
    ·exact .inl h1
    ·exact .inr ⟨i, j, h1, by omega, by omega, h4⟩
theorem slot_bd (st : Int) (cls : List (Int × Int)) (addr : Int) : slot st cls addr = (-1, -1) ∨
 ∃ i j : Nat, slot st cls addr = ((i : Int), (j : Int)) ∧ i < cls.length ∧ j < (sl cls i).toNat ∧ inS st cls addr i j = true := by
 rcases slotFrom_bd st cls addr cls.length 0 with h1 | ⟨i, j, h1, _, h3, h4⟩
 ·exact .inl h1
 ·exact .inr ⟨i, j, h1, by omega, h4⟩
def tag (st : Int) (cls : List (Int × Int)) (log : List Ref.Ev) (addr : Int) : Int :=
 if 16 ≤ addr ∧ addr < 16 * (1 + st) then 0
 else if (slot st cls addr).1 < 0 then -1
 else if Ref.state log (slot st cls addr).1 (slot st cls addr).2 ≠ 3 then 15
 else if begin_ st cls (slot st cls addr).1.toNat (slot st cls addr).2 + 16 * (log.getD (Ref.given log (slot st cls addr).1 (slot st cls addr).2).toNat Ref.Ev.no).size ≤ addr then 15
 else (log.getD (Ref.given log (slot st cls addr).1 (slot st cls addr).2).toNat Ref.Ev.no).tag
end Cf
end Go.Proofs.YtjikemhmnkckcabGreat
namespace Go.Proofs.YtjikemhmnkckcabGreat
open Go.RowKit
def CCells (w : World) (a : Option Addr) (cls : List (Int × Int)) : Prop :=
 0 < cls.length → ∃ g off, a = some ⟨g, off, none⟩ ∧ g < w.heap.size ∧ ∀ i, i < cls.length → w.cell? ⟨g, off + i * 2, none⟩ = some (.int .i64 (Cf.gr cls i)) ∧ w.cell? ⟨g, off + i * 2 + 1, none⟩ = some (.int .i64 (Cf.sl cls i))
structure CRow (w : World) (a : Option Addr) (cap : Nat) (cls : List (Int × Int)) : Prop where
 len : cls.length ≤ cap
 cap : cap ≤ maxLen
 cells : CCells w a cls
theorem CRow.below {w w' : World} {a : Option Addr} {cap : Nat} {cls : List (Int × Int)} (h : CRow w a cap cls) (hb : Below w.heap.size w w') : CRow w' a cap cls :=
 ⟨h.len, h.cap, fun h0 => by
   obtain ⟨g, off, ha, hg, hc⟩ := h.cells h0;exact ⟨g, off, ha, Nat.lt_of_lt_of_le hg hb.size, fun i hi => ⟨by rw [hb.cell (p := ⟨g, off + i * 2, none⟩) hg]; exact (hc i hi).1, by rw [hb.cell (p := ⟨g, off + i * 2 + 1, none⟩) hg]; exact (hc i hi).2⟩⟩⟩
theorem CRow.of_row {w : World} {v : Value} {cls : List (Int × Int)} (h : w.ownsRow 0 84 2 v cls.length (cls.flatMap clsCells)) :
 ∃ a cap, v = .slice a cls.length cap ∧ CRow w a cap cls := by
 obtain ⟨a, cap, rfl, h1, h2, h3⟩ := row_open h;refine ⟨a, cap, rfl, h1, h2, fun h0 => ?_⟩;obtain ⟨g, ha, hg, hc, _⟩ := h3 h0;refine ⟨g, 0, ha, hg, fun i hi => ?_⟩;have := cls_cells hc i hi;simp only [Nat.zero_add];exact this
end Go.Proofs.YtjikemhmnkckcabGreat
namespace Go.Proofs.YtjikemhmnkckcabGreat
namespace PickMath
def cs (p : Nat → Bool) : Nat → List Nat
 | 0 => []
 | k + 1 => if p (k + 1) then cs p k ++ [k + 1] else cs p k
theorem cs_len_le (p : Nat → Bool) (k : Nat) : (cs p k).length ≤ k := by
 induction k with
 | zero => simp [cs]
 | succ k ih =>
   simp only [cs]; split
   ·rw [List.length_append, List.length_singleton]; omega
   ·omega
theorem cs_more (p : Nat → Bool) {k : Nat} (h : p (k + 1) = true) : (cs p (k + 1)).length = (cs p k).length + 1 := by
 simp [cs, h]
theorem cs_same (p : Nat → Bool) {k : Nat} (h : p (k + 1) = false) : (cs p (k + 1)).length = (cs p k).length := by
 simp [cs, h]
theorem cs_at (p : Nat → Bool) (n t : Nat) (h : t < n) (hp : p (t + 1) = true) : (cs p n)[(cs p t).length]? = some (t + 1) := by
 induction n with
 | zero => omega
 | succ n ih =>
   by_cases e : t = n
   ·subst e; simp [cs, hp]
   ·have hi := ih (by omega);simp only [cs]
    split
    ·rw [List.getElem?_append_left]
     ·exact hi
     ·rcases Nat.lt_or_ge (cs p t).length (cs p n).length with h1 | h1
      ·exact h1
      ·rw [List.getElem?_eq_none h1] at hi; cases hi
    ·exact hi
theorem cs_get (p : Nat → Bool) (n j : Nat) (h : j < (cs p n).length) : ∃ t, t < n ∧ p (t + 1) = true ∧ (cs p t).length = j := by
 induction n with
 | zero => simp [cs] at h
 | succ n ih =>
   by_cases hp : p (n + 1) = true
   ·by_cases e : j = (cs p n).length
    ·exact ⟨n, by omega, hp, e.symm⟩
    ·simp [cs, hp] at h;obtain ⟨t, h1, h2, h3⟩ := ih (by omega);exact ⟨t, by omega, h2, h3⟩
   ·simp [cs, hp] at h;obtain ⟨t, h1, h2, h3⟩ := ih h;exact ⟨t, by omega, h2, h3⟩
def ok (l a b : Int) (t : Nat) : Bool := (decide ((t : Int) ≠ l) && decide ((t : Int) ≠ a)) && decide ((t : Int) ≠ b)
theorem ok_iff (l a b : Int) (t : Nat) : ok l a b t = true ↔ (t : Int) ≠ l ∧ (t : Int) ≠ a ∧ (t : Int) ≠ b := by
 simp [ok, and_assoc]
def one (x : Int) (k : Nat) : Nat := if 1 ≤ x ∧ x ≤ k then 1 else 0
theorem one_le (x : Int) (k : Nat) : one x k ≤ 1 := by unfold one; split <;> omega
theorem one_succ (x : Int) (k : Nat) : one x (k + 1) = one x k + if ((k + 1 : Nat) : Int) = x then 1 else 0 := by
 unfold one; split <;> split <;> split <;> omega
theorem cs_many (l a b : Int) (k : Nat) : k ≤ (cs (ok l a b) k).length + one l k + one a k + one b k := by
 induction k with
 | zero => simp
 | succ k ih =>
   rw [one_succ, one_succ, one_succ]
   by_cases h : ok l a b (k + 1) = true
   ·simp only [cs, h, if_true, List.length_append, List.length_singleton]; omega
   ·have h' : ((k + 1 : Nat) : Int) = l ∨ ((k + 1 : Nat) : Int) = a ∨ ((k + 1 : Nat) : Int) = b := by
     rw [ok_iff] at h; omega
    simp only [cs, h]
    rcases h' with h' | h' | h'
    ·rw [if_pos h']; simp; omega
    ·rw [if_pos (c := ((k + 1 : Nat) : Int) = a) h']; simp; omega
    ·rw [if_pos (c := ((k + 1 : Nat) : Int) = b) h']; simp; omega
def many (l a b : Int) : Nat := (cs (ok l a b) 14).length
theorem many_lo (l a b : Int) : 11 ≤ many l a b := by
 have := cs_many l a b 14; have := one_le l 14; have := one_le a 14; have := one_le b 14
 unfold many; omega
theorem many_hi (l a b : Int) : many l a b ≤ 14 := cs_len_le _ _
def dr (d : Int) : Int := d % 12012
theorem dr_lo (d : Int) : 0 ≤ dr d := by unfold dr; omega
theorem dr_hi (d : Int) : dr d < 12012 := by unfold dr; omega
theorem tmod_is (d : Int) : d.tmod 12012 = dr d ∨ d.tmod 12012 = dr d - 12012 := by
 rw [Int.tmod_eq_emod]; unfold dr; split
 ·left; omega
 ·right; rfl
theorem tmod_pos {d : Int} (h : ¬ d.tmod 12012 < 0) : d.tmod 12012 = dr d := by
 have := tmod_is d; have := dr_hi d; omega
theorem tmod_neg {d : Int} (h : d.tmod 12012 < 0) : d.tmod 12012 + 12012 = dr d := by
 have := tmod_is d; have := dr_lo d; omega
theorem tmod_lo (d : Int) : -12012 ≤ d.tmod 12012 := by
 have := tmod_is d; have := dr_lo d; omega
theorem tmod_hi (d : Int) : d.tmod 12012 < 12012 := by
 have := tmod_is d; have := dr_hi d; omega
def pick (l a b d : Int) : Nat := (cs (ok l a b) 14).getD ((dr d).toNat % many l a b) 0
theorem pick_spec (l a b d : Int) : ∃ t, t < 14 ∧ ok l a b (t + 1) = true ∧ (cs (ok l a b) t).length = (dr d).toNat % many l a b ∧ pick l a b d = t + 1 := by
 have hm := many_lo l a b;have hj : (dr d).toNat % many l a b < (cs (ok l a b) 14).length := Nat.mod_lt _ (by omega);obtain ⟨t, h1, h2, h3⟩ := cs_get _ _ _ hj;refine ⟨t, h1, h2, h3, ?_⟩;unfold pick;rw [← h3, List.getD_eq_getElem?_getD, cs_at _ _ _ h1 h2]; rfl
theorem pick_lo (l a b d : Int) : 1 ≤ pick l a b d := by
 obtain ⟨t, _, _, _, h⟩ := pick_spec l a b d; omega
theorem pick_hi (l a b d : Int) : pick l a b d ≤ 14 := by
 obtain ⟨t, _, _, _, h⟩ := pick_spec l a b d; omega
theorem pick_ok (l a b d : Int) : ok l a b (pick l a b d) = true := by
 obtain ⟨t, _, h2, _, h⟩ := pick_spec l a b d; rw [h]; exact h2
def cnt (l a b : Int) (t : Nat) : Nat → Nat
 | 0 => 0
 | n + 1 => cnt l a b t n + if pick l a b (n : Int) = t then 1 else 0
end PickMath
end Go.Proofs.YtjikemhmnkckcabGreat
