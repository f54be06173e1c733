import Derived.WalkKit
import Derived.WalkSpells
import Derived.Test.YtjikemhmnkckcaaProg
import Derived.BigQuiet
import Derived.Deep.QuietTactic
/- Plain mathematics of the document's answer (granuleref): the list of events, and what is looked for in it. No program in sight. -/
namespace Go.Proofs.Ytjikemhmnkckcaa
namespace Ref

structure Ev where
  back : Bool
  cls : Int
  slot : Int
  tag : Int
  size : Int
  site : Int

/-- what lies at a place where there is nothing -/
def Ev.no : Ev := ⟨false, 0, 0, 0, 0, 0⟩

def Ev.gives (e : Ev) (k s : Int) : Bool := !e.back && e.cls == k && e.slot == s
def Ev.takes (e : Ev) (k s : Int) : Bool := e.back && e.cls == k && e.slot == s

/-- among the first n events the last that gave something out of the slot -/
def givenTo (log : List Ev) (k s : Int) : Nat → Int
  | 0 => -1
  | n + 1 => if (log.getD n Ev.no).gives k s then n else givenTo log k s n
def given (log : List Ev) (k s : Int) : Int := givenTo log k s log.length

/-- the first place from i on, of f many, at which p holds; -1: none -/
def firstFrom (p : Nat → Bool) : Nat → Nat → Int
  | 0, _ => -1
  | f + 1, i => if p i then i else firstFrom p f (i + 1)

def gone (log : List Ev) (k s : Int) : Int :=
  firstFrom (fun i => (log.getD i Ev.no).takes k s) (log.length - (given log k s + 1).toNat) (given log k s + 1).toNat

/-- how many places from i on, of f many, at which p holds -/
def countFrom (p : Nat → Bool) : Nat → Nat → Nat
  | 0, _ => 0
  | f + 1, i => (if p i then 1 else 0) + countFrom p f (i + 1)

def state (log : List Ev) (k s : Int) : Int := if given log k s < 0 then 2 else if gone log k s < 0 then 3 else 4
def last (log : List Ev) (k s : Int) : Int := if given log k s < 0 then 0 else (log.getD (given log k s).toNat Ev.no).tag
def Ev.frees (e : Ev) (k : Int) : Bool := e.back && e.cls == k
/-- how many frees of the class there were behind the slot's own -/
def since (log : List Ev) (k s : Int) : Nat :=
  countFrom (fun i => (log.getD i Ev.no).frees k) (log.length - (gone log k s + 1).toNat) (gone log k s + 1).toNat
def rests (log : List Ev) (rest k s : Int) : Bool := if gone log k s < 0 then false else decide ((since log k s : Int) < rest)

theorem givenTo_lo (log : List Ev) (k s : Int) (n : Nat) : -1 ≤ givenTo log k s n := by
  induction n with
  | zero => simp [givenTo]
  | succ n ih => simp only [givenTo]; split <;> omega
theorem givenTo_hi (log : List Ev) (k s : Int) (n : Nat) : givenTo log k s n < n := by
  induction n with
  | zero => simp [givenTo]
  | succ n ih => simp only [givenTo]; split <;> omega
theorem given_lo (log : List Ev) (k s : Int) : -1 ≤ given log k s := givenTo_lo _ _ _ _
theorem given_hi (log : List Ev) (k s : Int) : given log k s < log.length := givenTo_hi _ _ _ _

theorem firstFrom_lo (p : Nat → Bool) (f i : Nat) : -1 ≤ firstFrom p f i := by
  induction f generalizing i with
  | zero => simp [firstFrom]
  | succ f ih => simp only [firstFrom]; split; · omega
                 · exact ih _
theorem firstFrom_hi (p : Nat → Bool) (f i : Nat) : firstFrom p f i < (i + f : Nat) := by
  induction f generalizing i with
  | zero => simp [firstFrom]; omega
  | succ f ih => simp only [firstFrom]; split; · omega
                 · have := ih (i + 1); omega
theorem firstFrom_at (p : Nat → Bool) (f i : Nat) (h : 0 ≤ firstFrom p f i) : (i : Int) ≤ firstFrom p f i ∧ p (firstFrom p f i).toNat = true := by
  induction f generalizing i with
  | zero => simp [firstFrom] at h
  | succ f ih =>
    simp only [firstFrom] at h ⊢
    split
    · exact ⟨Int.le_refl _, by simpa⟩
    · rename_i hp
      rw [if_neg hp] at h
      have := ih (i + 1) h
      exact ⟨by omega, this.2⟩
theorem firstFrom_no (p : Nat → Bool) (f i : Nat) (h : firstFrom p f i = -1) : ∀ j, i ≤ j → j < i + f → p j = false := by
  induction f generalizing i with
  | zero => intro j h1 h2; omega
  | succ f ih =>
    intro j h1 h2
    simp only [firstFrom] at h
    by_cases hp : p i = true
    · rw [if_pos hp] at h; omega
    · rw [if_neg hp] at h
      by_cases e : j = i
      · subst e; simpa using hp
      · exact ih (i + 1) h j (by omega) (by omega)
theorem firstFrom_before (p : Nat → Bool) (f i : Nat) (h : 0 ≤ firstFrom p f i) : ∀ j, i ≤ j → (j : Int) < firstFrom p f i → p j = false := by
  induction f generalizing i with
  | zero => simp [firstFrom] at h
  | succ f ih =>
    intro j h1 h2
    simp only [firstFrom] at h h2
    by_cases hp : p i = true
    · rw [if_pos hp] at h2; omega
    · rw [if_neg hp] at h h2
      by_cases e : j = i
      · subst e; simpa using hp
      · exact ih (i + 1) h j (by omega) h2
theorem countFrom_le (p : Nat → Bool) (f i : Nat) : countFrom p f i ≤ f := by
  induction f generalizing i with
  | zero => simp [countFrom]
  | succ f ih => simp only [countFrom]; have := ih (i + 1); split <;> omega


theorem gone_lo (log : List Ev) (k s : Int) : -1 ≤ gone log k s := firstFrom_lo _ _ _
theorem gone_hi (log : List Ev) (k s : Int) : gone log k s < log.length := by
  have h := firstFrom_hi (fun i => (log.getD i Ev.no).takes k s) (log.length - (given log k s + 1).toNat) (given log k s + 1).toNat
  have h1 := given_lo log k s
  have h2 := given_hi log k s
  unfold gone
  omega
end Ref
end Go.Proofs.Ytjikemhmnkckcaa
/- How lists of plain structs lie in memory; what a call keeps. -/
namespace Go.Proofs.Ytjikemhmnkckcaa
open Go.RowKit

/-- the cells of a list of structs, each of m cells -/
theorem flat_get {α : Type} (enc : α → List Value) (m : Nat) (hm : ∀ x, (enc x).length = m) (xs : List α) (i j : Nat) (hj : j < m) :
    (xs.flatMap enc)[i * m + j]? = (xs[i]?).bind fun x => (enc x)[j]? := by
  induction xs generalizing i with
  | nil => simp
  | cons x xs ih =>
    cases i with
    | zero => simp [List.flatMap_cons, List.getElem?_append_left (show j < (enc x).length by rw [hm]; exact hj)]
    | succ i =>
      rw [List.flatMap_cons, List.getElem?_append_right (by rw [hm, Nat.succ_mul]; omega), hm, show (i + 1) * m + j - m = i * m + j by rw [Nat.succ_mul]; omega, ih i]
      simp

theorem flat_len {α : Type} (enc : α → List Value) (m : Nat) (hm : ∀ x, (enc x).length = m) (xs : List α) : (xs.flatMap enc).length = xs.length * m := by
  induction xs with
  | nil => simp
  | cons x xs ih => rw [List.flatMap_cons, List.length_append, hm, ih, List.length_cons, Nat.succ_mul]; omega

/-- a row, opened -/
theorem row_form {w : World} {e : TypeId} {m : Nat} {v : Value} {n : Nat} {xs : List Value} (h : w.ownsRow 0 e m v n xs) :
    (v = .slice none 0 0 ∧ n = 0) ∨ ∃ g cap, v = .slice (some ⟨g, 0, none⟩) n cap ∧ n ≤ cap ∧ cap ≤ maxLen ∧ g < w.heap.size ∧ (∀ j u, xs[j]? = some u → w.cell? ⟨g, j, none⟩ = some u) ∧ (∀ j, w.frozen? ⟨g, j, none⟩ = false) := by
  rcases h.2 with h0 | ⟨g, cap, cur, hv, _, hg, hnc, hcm, hcs, htake⟩
  · exact .inl h0
  · refine .inr ⟨g, cap, hv, hnc, hcm, (Array.getElem?_eq_some_iff.1 hg).1, fun j u hu => ?_, fun j => by simp [World.frozen?, hg]⟩
    rw [cell_of_row w g j cur e (0, 0) hg]
    rw [← htake, List.getElem?_take] at hu
    split at hu
    · simpa using hu
    · cases hu

/-- the same, for both cases at once -/
theorem row_open {w : World} {e : TypeId} {m : Nat} {v : Value} {n : Nat} {xs : List Value} (h : w.ownsRow 0 e m v n xs) :
    ∃ a cap, v = .slice a n cap ∧ n ≤ cap ∧ cap ≤ maxLen ∧ (0 < n → ∃ g, a = some ⟨g, 0, none⟩ ∧ g < w.heap.size ∧ (∀ j u, xs[j]? = some u → w.cell? ⟨g, j, none⟩ = some u) ∧ (∀ j, w.frozen? ⟨g, j, none⟩ = false)) := by
  rcases row_form h with ⟨rfl, rfl⟩ | ⟨g, cap, rfl, h1, h2, h3, h4, h5⟩
  · exact ⟨none, 0, rfl, Nat.le_refl _, by simp [maxLen], fun h => absurd h (by omega)⟩
  · exact ⟨_, cap, rfl, h1, h2, fun _ => ⟨g, rfl, h3, h4, h5⟩⟩

/-- what a call keeps: all old blocks but those of S -/
structure Kept (w w' : World) (S : Nat → Prop) : Prop where
  os : w'.os = w.os
  tape : w'.tape = w.tape
  output : w'.output = w.output
  size : w.heap.size ≤ w'.heap.size
  block : ∀ k, k < w.heap.size → ¬ S k → w'.heap[k]? = w.heap[k]?

theorem Kept.of_below {w w' : World} (h : Below w.heap.size w w') (S : Nat → Prop) : Kept w w' S := ⟨h.os, h.tape, h.output, h.size, fun k hk _ => h.block k hk⟩
theorem Kept.to_below {w w' : World} {S : Nat → Prop} (h : Kept w w' S) {B : Nat} (hB : B ≤ w.heap.size) (hS : ∀ k, S k → B ≤ k) : Below B w w' :=
  ⟨h.os, h.tape, h.output, h.size, fun k hk => h.block k (Nat.lt_of_lt_of_le hk hB) (fun s => by have := hS k s; omega)⟩
theorem Kept.trans {a b c : World} {S : Nat → Prop} (h : Kept a b S) (g : Kept b c S) : Kept a c S :=
  ⟨g.os.trans h.os, g.tape.trans h.tape, g.output.trans h.output, Nat.le_trans h.size g.size, fun k hk hs => (g.block k (Nat.lt_of_lt_of_le hk h.size) hs).trans (h.block k hk hs)⟩
theorem Kept.mono {a b : World} {S T : Nat → Prop} (h : Kept a b S) (hs : ∀ k, k < a.heap.size → S k → T k) : Kept a b T :=
  ⟨h.os, h.tape, h.output, h.size, fun k hk ht => h.block k hk (fun x => ht (hs k hk x))⟩

/-- a row is as it was where its block was kept -/
theorem row_kept {w w' : World} {e : TypeId} {m : Nat} {v : Value} {n : Nat} {xs : List Value} (h : w.ownsRow 0 e m v n xs) (hk : ∀ g, v.ownBlock = some g → w'.heap[g]? = w.heap[g]?) : w'.ownsRow 0 e m v n xs := by
  refine ⟨h.1, ?_⟩
  rcases h.2 with h0 | ⟨g, cap, cur, hv, hb, hg, rest⟩
  · exact .inl h0
  · exact .inr ⟨g, cap, cur, hv, hb, by rw [hk g (by rw [hv]; rfl)]; exact hg, rest⟩

theorem row_below {w w' : World} {B : Nat} {e : TypeId} {m : Nat} {v : Value} {n : Nat} {xs : List Value} (h : w.ownsRow 0 e m v n xs) (hb : Below B w w') (hB : ∀ g, v.ownBlock = some g → g < B) : w'.ownsRow 0 e m v n xs :=
  row_kept h fun g hg => hb.block g (hB g hg)
theorem row_lt {w : World} {e : TypeId} {m : Nat} {v : Value} {n : Nat} {xs : List Value} (h : w.ownsRow 0 e m v n xs) {g : Nat} (hg : v.ownBlock = some g) : g < w.heap.size := (h.lt g hg).2

/-- a block of plain cells -/
def Blk (w : World) (b : Nat) (t : TypeId) (xs : List Value) : Prop := w.heap[b]? = some (.cells xs.toArray t (0, 0))
theorem Blk.cell {w : World} {b : Nat} {t : TypeId} {xs : List Value} (h : Blk w b t xs) {j : Nat} {v : Value} (hj : xs[j]? = some v) : w.cell? ⟨b, j, none⟩ = some v := by
  rw [cell_of_row w b j _ t (0, 0) h]; simpa using hj
theorem Blk.frozen {w : World} {b : Nat} {t : TypeId} {xs : List Value} (h : Blk w b t xs) (j : Nat) : w.frozen? ⟨b, j, none⟩ = false := by
  have h' : w.heap[b]? = some (.cells xs.toArray t (0, 0)) := h
  simp [World.frozen?, h']
theorem Blk.lt {w : World} {b : Nat} {t : TypeId} {xs : List Value} (h : Blk w b t xs) : b < w.heap.size := (Array.getElem?_eq_some_iff.1 (show w.heap[b]? = _ from h)).1
theorem Blk.below {w w' : World} {B b : Nat} {t : TypeId} {xs : List Value} (h : Blk w b t xs) (hb : Below B w w') (hB : b < B) : Blk w' b t xs := (hb.block b hB).trans h
theorem Blk.alloc (w : World) (t : TypeId) (xs : List Value) : Blk (w.alloc (.cells xs.toArray t)) w.heap.size t xs := heap_alloc_new w _
theorem Blk.setCell {w : World} {b : Nat} {t : TypeId} {xs : List Value} (h : Blk w b t xs) (j : Nat) (v : Value) : Blk (w.setCell ⟨b, j, none⟩ v) b t (xs.set j v) := by
  have h' : w.heap[b]? = some (.cells xs.toArray t (0, 0)) := h
  have hlt := h.lt
  simp only [Blk, World.setCell]
  rw [Array.getElem?_modify]
  simp [h']
theorem Blk.setCell_other {w : World} {b : Nat} {t : TypeId} {xs : List Value} (h : Blk w b t xs) (a : Addr) (v : Value) (hne : b ≠ a.block) : Blk (w.setCell a v) b t xs :=
  (Below.heap_setCell w a v b hne).trans h

end Go.Proofs.Ytjikemhmnkckcaa
/- How the document's heap (granuleref.Heap) lies in memory. -/
namespace Go.Proofs.Ytjikemhmnkckcaa
open Go.RowKit

structure RSt where
  st : Int
  rest : Int
  cls : List (Int × Int)
  log : List Ref.Ev
  marks : List (Int × Int × Int)

def clsCells (c : Int × Int) : List Value := [.int .i64 c.1, .int .i64 c.2]
def evCells (e : Ref.Ev) : List Value := [.bool e.back, .int .i64 e.cls, .int .i64 e.slot, .int .i64 e.tag, .int .i64 e.size, .int .i64 e.site]
def mkCells (m : Int × Int × Int) : List Value := [.int .i64 m.1, .int .i64 m.2.1, .int .i64 m.2.2]

structure RRep (w : World) (p : Nat) (vc vl vm : Value) (R : RSt) : Prop where
  blk : Blk w p 90 [.int .i64 R.st, .int .i64 R.rest, vc, vl, vm]
  cls : w.ownsRow 0 67 2 vc R.cls.length (R.cls.flatMap clsCells)
  log : w.ownsRow 0 94 6 vl R.log.length (R.log.flatMap evCells)
  marks : w.ownsRow 0 143 3 vm R.marks.length (R.marks.flatMap mkCells)
  apC : vc.ownBlock ≠ some p
  apL : vl.ownBlock ≠ some p
  apM : vm.ownBlock ≠ some p
  apCL : ∀ g, vc.ownBlock = some g → vl.ownBlock ≠ some g
  apCM : ∀ g, vc.ownBlock = some g → vm.ownBlock ≠ some g
  apLM : ∀ g, vl.ownBlock = some g → vm.ownBlock ≠ some g

theorem RRep.below {w w' : World} {p : Nat} {vc vl vm : Value} {R : RSt} (h : RRep w p vc vl vm R) (hb : Below w.heap.size w w') : RRep w' p vc vl vm R :=
  ⟨h.blk.below hb h.blk.lt, row_below h.cls hb fun _ => row_lt h.cls, row_below h.log hb fun _ => row_lt h.log, row_below h.marks hb fun _ => row_lt h.marks, h.apC, h.apL, h.apM, h.apCL, h.apCM, h.apLM⟩

/-- the event's cells, one by one -/
theorem ev_cells {w : World} {g : Nat} {log : List Ref.Ev} (hc : ∀ j u, (log.flatMap evCells)[j]? = some u → w.cell? ⟨g, j, none⟩ = some u) (i : Nat) (hi : i < log.length) :
    w.cell? ⟨g, i * 6, none⟩ = some (.bool (log.getD i Ref.Ev.no).back) ∧ w.cell? ⟨g, i * 6 + 1, none⟩ = some (.int .i64 (log.getD i Ref.Ev.no).cls) ∧ w.cell? ⟨g, i * 6 + 2, none⟩ = some (.int .i64 (log.getD i Ref.Ev.no).slot) ∧
    w.cell? ⟨g, i * 6 + 3, none⟩ = some (.int .i64 (log.getD i Ref.Ev.no).tag) ∧ w.cell? ⟨g, i * 6 + 4, none⟩ = some (.int .i64 (log.getD i Ref.Ev.no).size) ∧ w.cell? ⟨g, i * 6 + 5, none⟩ = some (.int .i64 (log.getD i Ref.Ev.no).site) := by
  have h6 : ∀ j, j < 6 → (log.flatMap evCells)[i * 6 + j]? = (evCells (log.getD i Ref.Ev.no))[j]? := fun j hj => by
    rw [flat_get evCells 6 (fun _ => rfl) log i j hj, List.getElem?_eq_getElem hi]
    simp [List.getD_eq_getElem?_getD, List.getElem?_eq_getElem hi]
  have hx := fun j (hj : j < 6) u hu => hc (i * 6 + j) u (by rw [h6 j hj]; exact hu)
  exact ⟨hx 0 (by omega) _ rfl, hx 1 (by omega) _ rfl, hx 2 (by omega) _ rfl, hx 3 (by omega) _ rfl, hx 4 (by omega) _ rfl, hx 5 (by omega) _ rfl⟩

theorem cls_cells {w : World} {g : Nat} {cls : List (Int × Int)} (hc : ∀ j u, (cls.flatMap clsCells)[j]? = some u → w.cell? ⟨g, j, none⟩ = some u) (i : Nat) (hi : i < cls.length) :
    w.cell? ⟨g, i * 2, none⟩ = some (.int .i64 (cls.getD i (0, 0)).1) ∧ w.cell? ⟨g, i * 2 + 1, none⟩ = some (.int .i64 (cls.getD i (0, 0)).2) := by
  have h6 : ∀ j, j < 2 → (cls.flatMap clsCells)[i * 2 + j]? = (clsCells (cls.getD i (0, 0)))[j]? := fun j hj => by
    rw [flat_get clsCells 2 (fun _ => rfl) cls i j hj, List.getElem?_eq_getElem hi]
    simp [List.getD_eq_getElem?_getD, List.getElem?_eq_getElem hi]
  have hx := fun j (hj : j < 2) u hu => hc (i * 2 + j) u (by rw [h6 j hj]; exact hu)
  exact ⟨hx 0 (by omega) _ rfl, hx 1 (by omega) _ rfl⟩
end Go.Proofs.Ytjikemhmnkckcaa
