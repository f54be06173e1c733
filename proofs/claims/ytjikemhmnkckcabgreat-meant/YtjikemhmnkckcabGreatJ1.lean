import Derived.WalkKit
import Derived.WalkSpells
import Derived.Test.YtjikemhmnkckcabGreatProg
import Derived.BigQuiet
import Derived.Deep.QuietTactic
namespace Go.Proofs.YtjikemhmnkckcabGreat
namespace Ref
structure Ev where
 back : Bool
 cls : Int
 slot : Int
 tag : Int
 size : Int
 site : Int
def Ev.no : Ev := ⟨false, 0, 0, 0, 0, 0⟩
def givenTo (log : List Ev) (k s : Int) : Nat → Int
 | 0 => -1
 | n + 1 => if (log.getD n Ev.no).gives k s then n else givenTo log k s n
def given (log : List Ev) (k s : Int) : Int := givenTo log k s log.length
def firstFrom (p : Nat → Bool) : Nat → Nat → Int
 | 0, _ => -1
 | f + 1, i => if p i then i else firstFrom p f (i + 1)
def gone (log : List Ev) (k s : Int) : Int :=
 firstFrom (fun i => (log.getD i Ev.no).takes k s) (log.length - (given log k s + 1).toNat) (given log k s + 1).toNat
def countFrom (p : Nat → Bool) : Nat → Nat → Nat
 | 0, _ => 0
 | f + 1, i => (if p i then 1 else 0) + countFrom p f (i + 1)
def state (log : List Ev) (k s : Int) : Int := if given log k s < 0 then 2 else if gone log k s < 0 then 3 else 4
def last (log : List Ev) (k s : Int) : Int := if given log k s < 0 then 0 else (log.getD (given log k s).toNat Ev.no).tag
def since (log : List Ev) (k s : Int) : Nat :=
 countFrom (fun i => (log.getD i Ev.no).frees k) (log.length - (gone log k s + 1).toNat) (gone log k s + 1).toNat
def rests (log : List Ev) (rest k s : Int) : Bool := if gone log k s < 0 then false else decide ((since log k s : Int) < rest)
end Ref
end Go.Proofs.YtjikemhmnkckcabGreat
namespace Go.Proofs.YtjikemhmnkckcabGreat
open Go.RowKit
theorem flat_get {α : Type} (enc : α → List Value) (m : Nat) (hm : ∀ x, (enc x).length = m) (xs : List α) (i j : Nat) (hj : j < m) :
 (xs.flatMap enc)[i * m + j]? = (xs[i]?).bind fun x => (enc x)[j]? := by
 induction xs generalizing i with
 | nil => simp
 | cons x xs ih =>
   cases i with
   | zero => simp [List.flatMap_cons, List.getElem?_append_left (show j < (enc x).length by rw [hm]; exact hj)]
   | succ i =>
     rw [List.flatMap_cons, List.getElem?_append_right (by rw [hm, Nat.succ_mul]; omega), hm, show (i + 1) * m + j - m = i * m + j by rw [Nat.succ_mul]; omega, ih i]
     simp
theorem flat_len {α : Type} (enc : α → List Value) (m : Nat) (hm : ∀ x, (enc x).length = m) (xs : List α) : (xs.flatMap enc).length = xs.length * m := by
 induction xs with
 | nil => simp
 | cons x xs ih => rw [List.flatMap_cons, List.length_append, hm, ih, List.length_cons, Nat.succ_mul]; omega
theorem row_form {w : World} {e : TypeId} {m : Nat} {v : Value} {n : Nat} {xs : List Value} (h : w.ownsRow 0 e m v n xs) :
 (v = .slice none 0 0 ∧ n = 0) ∨ ∃ g cap, v = .slice (some ⟨g, 0, none⟩) n cap ∧ n ≤ cap ∧ cap ≤ maxLen ∧ g < w.heap.size ∧ (∀ j u, xs[j]? = some u → w.cell? ⟨g, j, none⟩ = some u) ∧ (∀ j, w.frozen? ⟨g, j, none⟩ = false) := by
 rcases h.2 with h0 | ⟨g, cap, cur, hv, _, hg, hnc, hcm, hcs, htake⟩
 ·exact .inl h0
 ·refine .inr ⟨g, cap, hv, hnc, hcm, (Array.getElem?_eq_some_iff.1 hg).1, fun j u hu => ?_, fun j => by simp [World.frozen?, hg]⟩
  rw [cell_of_row w g j cur e (0, 0) hg]
  rw [← htake, List.getElem?_take] at hu
  split at hu
  ·simpa using hu
  ·cases hu
theorem row_open {w : World} {e : TypeId} {m : Nat} {v : Value} {n : Nat} {xs : List Value} (h : w.ownsRow 0 e m v n xs) :
 ∃ a cap, v = .slice a n cap ∧ n ≤ cap ∧ cap ≤ maxLen ∧ (0 < n → ∃ g, a = some ⟨g, 0, none⟩ ∧ g < w.heap.size ∧ (∀ j u, xs[j]? = some u → w.cell? ⟨g, j, none⟩ = some u) ∧ (∀ j, w.frozen? ⟨g, j, none⟩ = false)) := by
 rcases row_form h with ⟨rfl, rfl⟩ | ⟨g, cap, rfl, h1, h2, h3, h4, h5⟩
 ·exact ⟨none, 0, rfl, Nat.le_refl _, by simp [maxLen], fun h => absurd h (by omega)⟩
 ·exact ⟨_, cap, rfl, h1, h2, fun _ => ⟨g, rfl, h3, h4, h5⟩⟩
structure Kept (w w' : World) (S : Nat → Prop) : Prop where
 os : w'.os = w.os
 tape : w'.tape = w.tape
 output : w'.output = w.output
 size : w.heap.size ≤ w'.heap.size
 block : ∀ k, k < w.heap.size → ¬ S k → w'.heap[k]? = w.heap[k]?
theorem Kept.of_below {w w' : World} (h : Below w.heap.size w w') (S : Nat → Prop) : Kept w w' S := ⟨h.os, h.tape, h.output, h.size, fun k hk _ => h.block k hk⟩
theorem Kept.trans {a b c : World} {S : Nat → Prop} (h : Kept a b S) (g : Kept b c S) : Kept a c S :=
 ⟨g.os.trans h.os, g.tape.trans h.tape, g.output.trans h.output, Nat.le_trans h.size g.size, fun k hk hs => (g.block k (Nat.lt_of_lt_of_le hk h.size) hs).trans (h.block k hk hs)⟩
theorem Kept.mono {a b : World} {S T : Nat → Prop} (h : Kept a b S) (hs : ∀ k, k < a.heap.size → S k → T k) : Kept a b T :=
 ⟨h.os, h.tape, h.output, h.size, fun k hk ht => h.block k hk (fun x => ht (hs k hk x))⟩
theorem row_kept {w w' : World} {e : TypeId} {m : Nat} {v : Value} {n : Nat} {xs : List Value} (h : w.ownsRow 0 e m v n xs) (hk : ∀ g, v.ownBlock = some g → w'.heap[g]? = w.heap[g]?) : w'.ownsRow 0 e m v n xs := by
 refine ⟨h.1, ?_⟩
 rcases h.2 with h0 | ⟨g, cap, cur, hv, hb, hg, rest⟩
 ·exact .inl h0
 ·exact .inr ⟨g, cap, cur, hv, hb, by rw [hk g (by rw [hv]; rfl)]; exact hg, rest⟩
theorem row_below {w w' : World} {B : Nat} {e : TypeId} {m : Nat} {v : Value} {n : Nat} {xs : List Value} (h : w.ownsRow 0 e m v n xs) (hb : Below B w w') (hB : ∀ g, v.ownBlock = some g → g < B) : w'.ownsRow 0 e m v n xs :=
 row_kept h fun g hg => hb.block g (hB g hg)
theorem row_lt {w : World} {e : TypeId} {m : Nat} {v : Value} {n : Nat} {xs : List Value} (h : w.ownsRow 0 e m v n xs) {g : Nat} (hg : v.ownBlock = some g) : g < w.heap.size := (h.lt g hg).2
def Blk (w : World) (b : Nat) (t : TypeId) (xs : List Value) : Prop := w.heap[b]? = some (.cells xs.toArray t (0, 0))
theorem Blk.cell {w : World} {b : Nat} {t : TypeId} {xs : List Value} (h : Blk w b t xs) {j : Nat} {v : Value} (hj : xs[j]? = some v) : w.cell? ⟨b, j, none⟩ = some v := by
 rw [cell_of_row w b j _ t (0, 0) h]; simpa using hj
theorem Blk.frozen {w : World} {b : Nat} {t : TypeId} {xs : List Value} (h : Blk w b t xs) (j : Nat) : w.frozen? ⟨b, j, none⟩ = false := by
 have h' : w.heap[b]? = some (.cells xs.toArray t (0, 0)) := h
 simp [World.frozen?, h']
theorem Blk.lt {w : World} {b : Nat} {t : TypeId} {xs : List Value} (h : Blk w b t xs) : b < w.heap.size := (Array.getElem?_eq_some_iff.1 (show w.heap[b]? = _ from h)).1
theorem Blk.alloc (w : World) (t : TypeId) (xs : List Value) : Blk (w.alloc (.cells xs.toArray t)) w.heap.size t xs := heap_alloc_new w _
theorem Blk.setCell {w : World} {b : Nat} {t : TypeId} {xs : List Value} (h : Blk w b t xs) (j : Nat) (v : Value) : Blk (w.setCell ⟨b, j, none⟩ v) b t (xs.set j v) := by
 have h' : w.heap[b]? = some (.cells xs.toArray t (0, 0)) := h
 have hlt := h.lt
 simp only [Blk, World.setCell]
 rw [Array.getElem?_modify]
 simp [h']
theorem Blk.setCell_other {w : World} {b : Nat} {t : TypeId} {xs : List Value} (h : Blk w b t xs) (a : Addr) (v : Value) (hne : b ≠ a.block) : Blk (w.setCell a v) b t xs :=
 (Below.heap_setCell w a v b hne).trans h
structure RSt where
 st : Int
 rest : Int
 cls : List (Int × Int)
 log : List Ref.Ev
 marks : List (Int × Int × Int)
def clsCells (c : Int × Int) : List Value := [.int .i64 c.1, .int .i64 c.2]
theorem cls_cells {w : World} {g : Nat} {cls : List (Int × Int)} (hc : ∀ j u, (cls.flatMap clsCells)[j]? = some u → w.cell? ⟨g, j, none⟩ = some u) (i : Nat) (hi : i < cls.length) :
 w.cell? ⟨g, i * 2, none⟩ = some (.int .i64 (cls.getD i (0, 0)).1) ∧ w.cell? ⟨g, i * 2 + 1, none⟩ = some (.int .i64 (cls.getD i (0, 0)).2) := by
 have h6 : ∀ j, j < 2 → (cls.flatMap clsCells)[i * 2 + j]? = (clsCells (cls.getD i (0, 0)))[j]? := fun j hj => by
  rw [flat_get clsCells 2 (fun _ => rfl) cls i j hj, List.getElem?_eq_getElem hi]
  simp [List.getD_eq_getElem?_getD, List.getElem?_eq_getElem hi]
 have hx := fun j (hj : j < 2) u hu => hc (i * 2 + j) u (by rw [h6 j hj]; exact hu)
 exact ⟨hx 0 (by omega) _ rfl, hx 1 (by omega) _ rfl⟩
end Go.Proofs.YtjikemhmnkckcabGreat
namespace Go.Proofs.YtjikemhmnkckcabGreat
namespace Cf
def gr (cls : List (Int × Int)) (i : Nat) : Int := (cls.getD i (0, 0)).1
def sl (cls : List (Int × Int)) (i : Nat) : Int := (cls.getD i (0, 0)).2
def gran (st : Int) (cls : List (Int × Int)) : Nat → Int
 | 0 => 1 + st + 1
 | k + 1 => gran st cls k + sl cls k * gr cls k + 1
def begin_ (st : Int) (cls : List (Int × Int)) (k : Nat) (s : Int) : Int := 16 * (gran st cls k + s * gr cls k)
def inS (st : Int) (cls : List (Int × Int)) (addr : Int) (k s : Nat) : Bool := decide (begin_ st cls k s ≤ addr) && decide (addr < begin_ st cls k s + 16 * gr cls k)
def slotIn (st : Int) (cls : List (Int × Int)) (addr : Int) (k : Nat) : Int := Ref.firstFrom (inS st cls addr k) (sl cls k).toNat 0
def slotFrom (st : Int) (cls : List (Int × Int)) (addr : Int) : Nat → Nat → Int × Int
 | 0, _ => (-1, -1)
 | f + 1, k => if 0 ≤ slotIn st cls addr k then ((k : Int), slotIn st cls addr k) else slotFrom st cls addr f (k + 1)
def slot (st : Int) (cls : List (Int × Int)) (addr : Int) : Int × Int := slotFrom st cls addr cls.length 0
def tag (st : Int) (cls : List (Int × Int)) (log : List Ref.Ev) (addr : Int) : Int :=
 if 16 ≤ addr ∧ addr < 16 * (1 + st) then 0
 else if (slot st cls addr).1 < 0 then -1
 else if Ref.state log (slot st cls addr).1 (slot st cls addr).2 ≠ 3 then 15
 else if begin_ st cls (slot st cls addr).1.toNat (slot st cls addr).2 + 16 * (log.getD (Ref.given log (slot st cls addr).1 (slot st cls addr).2).toNat Ref.Ev.no).size ≤ addr then 15
 else (log.getD (Ref.given log (slot st cls addr).1 (slot st cls addr).2).toNat Ref.Ev.no).tag
end Cf
end Go.Proofs.YtjikemhmnkckcabGreat
namespace Go.Proofs.YtjikemhmnkckcabGreat
open Go.RowKit
def CCells (w : World) (a : Option Addr) (cls : List (Int × Int)) : Prop :=
 0 < cls.length → ∃ g off, a = some ⟨g, off, none⟩ ∧ g < w.heap.size ∧ ∀ i, i < cls.length → w.cell? ⟨g, off + i * 2, none⟩ = some (.int .i64 (Cf.gr cls i)) ∧ w.cell? ⟨g, off + i * 2 + 1, none⟩ = some (.int .i64 (Cf.sl cls i))
structure CRow (w : World) (a : Option Addr) (cap : Nat) (cls : List (Int × Int)) : Prop where
 len : cls.length ≤ cap
 cap : cap ≤ maxLen
 cells : CCells w a cls
theorem CRow.of_row {w : World} {v : Value} {cls : List (Int × Int)} (h : w.ownsRow 0 84 2 v cls.length (cls.flatMap clsCells)) :
 ∃ a cap, v = .slice a cls.length cap ∧ CRow w a cap cls := by
 obtain ⟨a, cap, rfl, h1, h2, h3⟩ := row_open h
 refine ⟨a, cap, rfl, h1, h2, fun h0 => ?_⟩
 obtain ⟨g, ha, hg, hc, _⟩ := h3 h0
 refine ⟨g, 0, ha, hg, fun i hi => ?_⟩
 have := cls_cells hc i hi
 simp only [Nat.zero_add]
 exact this
end Go.Proofs.YtjikemhmnkckcabGreat
namespace Go.Proofs.YtjikemhmnkckcabGreat
namespace PickMath
def cs (p : Nat → Bool) : Nat → List Nat
 | 0 => []
 | k + 1 => if p (k + 1) then cs p k ++ [k + 1] else cs p k
def ok (l a b : Int) (t : Nat) : Bool := (decide ((t : Int) ≠ l) && decide ((t : Int) ≠ a)) && decide ((t : Int) ≠ b)
def many (l a b : Int) : Nat := (cs (ok l a b) 14).length
def dr (d : Int) : Int := d % 12012
def pick (l a b d : Int) : Nat := (cs (ok l a b) 14).getD ((dr d).toNat % many l a b) 0
def cnt (l a b : Int) (t : Nat) : Nat → Nat
 | 0 => 0
 | n + 1 => cnt l a b t n + if pick l a b (n : Int) = t then 1 else 0
end PickMath
end Go.Proofs.YtjikemhmnkckcabGreat
