import Derived.WalkKit
import Derived.WalkSpells
import Derived.Test.YtjikemhmnkckcabGreatProg
import Derived.BigQuiet
import Derived.Deep.QuietTactic
import Derived.WalkLawsBesides
/- Plain mathematics of the document's answer (granuleref): the list of events, and what is looked for in it. No program in sight. -/
namespace Go.Proofs.YtjikemhmnkckcabGreat
namespace Ref

structure Ev where
  back : Bool
  cls : Int
  slot : Int
  tag : Int
  size : Int
  site : Int

/-- what lies at a place where there is nothing -/
def Ev.no : Ev := ⟨false, 0, 0, 0, 0, 0⟩

def Ev.gives (e : Ev) (k s : Int) : Bool := !e.back && e.cls == k && e.slot == s
def Ev.takes (e : Ev) (k s : Int) : Bool := e.back && e.cls == k && e.slot == s

/-- among the first n events the last that gave something out of the slot -/
def givenTo (log : List Ev) (k s : Int) : Nat → Int
  | 0 => -1
  | n + 1 => if (log.getD n Ev.no).gives k s then n else givenTo log k s n
def given (log : List Ev) (k s : Int) : Int := givenTo log k s log.length

/-- the first place from i on, of f many, at which p holds; -1: none -/
def firstFrom (p : Nat → Bool) : Nat → Nat → Int
  | 0, _ => -1
  | f + 1, i => if p i then i else firstFrom p f (i + 1)

def gone (log : List Ev) (k s : Int) : Int :=
  firstFrom (fun i => (log.getD i Ev.no).takes k s) (log.length - (given log k s + 1).toNat) (given log k s + 1).toNat

/-- how many places from i on, of f many, at which p holds -/
def countFrom (p : Nat → Bool) : Nat → Nat → Nat
  | 0, _ => 0
  | f + 1, i => (if p i then 1 else 0) + countFrom p f (i + 1)

def state (log : List Ev) (k s : Int) : Int := if given log k s < 0 then 2 else if gone log k s < 0 then 3 else 4
def last (log : List Ev) (k s : Int) : Int := if given log k s < 0 then 0 else (log.getD (given log k s).toNat Ev.no).tag
def Ev.frees (e : Ev) (k : Int) : Bool := e.back && e.cls == k
/-- how many frees of the class there were behind the slot's own -/
def since (log : List Ev) (k s : Int) : Nat :=
  countFrom (fun i => (log.getD i Ev.no).frees k) (log.length - (gone log k s + 1).toNat) (gone log k s + 1).toNat
def rests (log : List Ev) (rest k s : Int) : Bool := if gone log k s < 0 then false else decide ((since log k s : Int) < rest)

theorem givenTo_lo (log : List Ev) (k s : Int) (n : Nat) : -1 ≤ givenTo log k s n := by
  induction n with
  | zero => simp [givenTo]
  | succ n ih => simp only [givenTo]; split <;> omega
theorem givenTo_hi (log : List Ev) (k s : Int) (n : Nat) : givenTo log k s n < n := by
  induction n with
  | zero => simp [givenTo]
  | succ n ih => simp only [givenTo]; split <;> omega
theorem given_lo (log : List Ev) (k s : Int) : -1 ≤ given log k s := givenTo_lo _ _ _ _
theorem given_hi (log : List Ev) (k s : Int) : given log k s < log.length := givenTo_hi _ _ _ _

theorem firstFrom_lo (p : Nat → Bool) (f i : Nat) : -1 ≤ firstFrom p f i := by
  induction f generalizing i with
  | zero => simp [firstFrom]
  | succ f ih => simp only [firstFrom]; split; · omega
                 · exact ih _
theorem firstFrom_hi (p : Nat → Bool) (f i : Nat) : firstFrom p f i < (i + f : Nat) := by
  induction f generalizing i with
  | zero => simp [firstFrom]; omega
  | succ f ih => simp only [firstFrom]; split; · omega
                 · have := ih (i + 1); omega
theorem firstFrom_at (p : Nat → Bool) (f i : Nat) (h : 0 ≤ firstFrom p f i) : (i : Int) ≤ firstFrom p f i ∧ p (firstFrom p f i).toNat = true := by
  induction f generalizing i with
  | zero => simp [firstFrom] at h
  | succ f ih =>
    simp only [firstFrom] at h ⊢
    split
    · exact ⟨Int.le_refl _, by simpa⟩
    · rename_i hp
      rw [if_neg hp] at h
      have := ih (i + 1) h
      exact ⟨by omega, this.2⟩
theorem firstFrom_no (p : Nat → Bool) (f i : Nat) (h : firstFrom p f i = -1) : ∀ j, i ≤ j → j < i + f → p j = false := by
  induction f generalizing i with
  | zero => intro j h1 h2; omega
  | succ f ih =>
    intro j h1 h2
    simp only [firstFrom] at h
    by_cases hp : p i = true
    · rw [if_pos hp] at h; omega
    · rw [if_neg hp] at h
      by_cases e : j = i
      · subst e; simpa using hp
      · exact ih (i + 1) h j (by omega) (by omega)
theorem firstFrom_before (p : Nat → Bool) (f i : Nat) (h : 0 ≤ firstFrom p f i) : ∀ j, i ≤ j → (j : Int) < firstFrom p f i → p j = false := by
  induction f generalizing i with
  | zero => simp [firstFrom] at h
  | succ f ih =>
    intro j h1 h2
    simp only [firstFrom] at h h2
    by_cases hp : p i = true
    · rw [if_pos hp] at h2; omega
    · rw [if_neg hp] at h h2
      by_cases e : j = i
      · subst e; simpa using hp
      · exact ih (i + 1) h j (by omega) h2
theorem countFrom_le (p : Nat → Bool) (f i : Nat) : countFrom p f i ≤ f := by
  induction f generalizing i with
  | zero => simp [countFrom]
  | succ f ih => simp only [countFrom]; have := ih (i + 1); split <;> omega


theorem gone_lo (log : List Ev) (k s : Int) : -1 ≤ gone log k s := firstFrom_lo _ _ _
theorem gone_hi (log : List Ev) (k s : Int) : gone log k s < log.length := by
  have h := firstFrom_hi (fun i => (log.getD i Ev.no).takes k s) (log.length - (given log k s + 1).toNat) (given log k s + 1).toNat
  have h1 := given_lo log k s
  have h2 := given_hi log k s
  unfold gone
  omega
end Ref
end Go.Proofs.YtjikemhmnkckcabGreat
/- How lists of plain structs lie in memory; what a call keeps. -/
namespace Go.Proofs.YtjikemhmnkckcabGreat
open Go.RowKit

/-- the cells of a list of structs, each of m cells -/
theorem flat_get {α : Type} (enc : α → List Value) (m : Nat) (hm : ∀ x, (enc x).length = m) (xs : List α) (i j : Nat) (hj : j < m) :
    (xs.flatMap enc)[i * m + j]? = (xs[i]?).bind fun x => (enc x)[j]? := by
  induction xs generalizing i with
  | nil => simp
  | cons x xs ih =>
    cases i with
    | zero => simp [List.flatMap_cons, List.getElem?_append_left (show j < (enc x).length by rw [hm]; exact hj)]
    | succ i =>
      rw [List.flatMap_cons, List.getElem?_append_right (by rw [hm, Nat.succ_mul]; omega), hm, show (i + 1) * m + j - m = i * m + j by rw [Nat.succ_mul]; omega, ih i]
      simp

theorem flat_len {α : Type} (enc : α → List Value) (m : Nat) (hm : ∀ x, (enc x).length = m) (xs : List α) : (xs.flatMap enc).length = xs.length * m := by
  induction xs with
  | nil => simp
  | cons x xs ih => rw [List.flatMap_cons, List.length_append, hm, ih, List.length_cons, Nat.succ_mul]; omega

/-- a row, opened -/
theorem row_form {w : World} {e : TypeId} {m : Nat} {v : Value} {n : Nat} {xs : List Value} (h : w.ownsRow 0 e m v n xs) :
    (v = .slice none 0 0 ∧ n = 0) ∨ ∃ g cap, v = .slice (some ⟨g, 0, none⟩) n cap ∧ n ≤ cap ∧ cap ≤ maxLen ∧ g < w.heap.size ∧ (∀ j u, xs[j]? = some u → w.cell? ⟨g, j, none⟩ = some u) ∧ (∀ j, w.frozen? ⟨g, j, none⟩ = false) := by
  rcases h.2 with h0 | ⟨g, cap, cur, hv, _, hg, hnc, hcm, hcs, htake⟩
  · exact .inl h0
  · refine .inr ⟨g, cap, hv, hnc, hcm, (Array.getElem?_eq_some_iff.1 hg).1, fun j u hu => ?_, fun j => by simp [World.frozen?, hg]⟩
    rw [cell_of_row w g j cur e (0, 0) hg]
    rw [← htake, List.getElem?_take] at hu
    split at hu
    · simpa using hu
    · cases hu

/-- the same, for both cases at once -/
theorem row_open {w : World} {e : TypeId} {m : Nat} {v : Value} {n : Nat} {xs : List Value} (h : w.ownsRow 0 e m v n xs) :
    ∃ a cap, v = .slice a n cap ∧ n ≤ cap ∧ cap ≤ maxLen ∧ (0 < n → ∃ g, a = some ⟨g, 0, none⟩ ∧ g < w.heap.size ∧ (∀ j u, xs[j]? = some u → w.cell? ⟨g, j, none⟩ = some u) ∧ (∀ j, w.frozen? ⟨g, j, none⟩ = false)) := by
  rcases row_form h with ⟨rfl, rfl⟩ | ⟨g, cap, rfl, h1, h2, h3, h4, h5⟩
  · exact ⟨none, 0, rfl, Nat.le_refl _, by simp [maxLen], fun h => absurd h (by omega)⟩
  · exact ⟨_, cap, rfl, h1, h2, fun _ => ⟨g, rfl, h3, h4, h5⟩⟩

/-- what a call keeps: all old blocks but those of S -/
structure Kept (w w' : World) (S : Nat → Prop) : Prop where
  os : w'.os = w.os
  tape : w'.tape = w.tape
  output : w'.output = w.output
  size : w.heap.size ≤ w'.heap.size
  block : ∀ k, k < w.heap.size → ¬ S k → w'.heap[k]? = w.heap[k]?

theorem Kept.of_below {w w' : World} (h : Below w.heap.size w w') (S : Nat → Prop) : Kept w w' S := ⟨h.os, h.tape, h.output, h.size, fun k hk _ => h.block k hk⟩
theorem Kept.to_below {w w' : World} {S : Nat → Prop} (h : Kept w w' S) {B : Nat} (hB : B ≤ w.heap.size) (hS : ∀ k, S k → B ≤ k) : Below B w w' :=
  ⟨h.os, h.tape, h.output, h.size, fun k hk => h.block k (Nat.lt_of_lt_of_le hk hB) (fun s => by have := hS k s; omega)⟩
theorem Kept.trans {a b c : World} {S : Nat → Prop} (h : Kept a b S) (g : Kept b c S) : Kept a c S :=
  ⟨g.os.trans h.os, g.tape.trans h.tape, g.output.trans h.output, Nat.le_trans h.size g.size, fun k hk hs => (g.block k (Nat.lt_of_lt_of_le hk h.size) hs).trans (h.block k hk hs)⟩
theorem Kept.mono {a b : World} {S T : Nat → Prop} (h : Kept a b S) (hs : ∀ k, k < a.heap.size → S k → T k) : Kept a b T :=
  ⟨h.os, h.tape, h.output, h.size, fun k hk ht => h.block k hk (fun x => ht (hs k hk x))⟩

/-- a row is as it was where its block was kept -/
theorem row_kept {w w' : World} {e : TypeId} {m : Nat} {v : Value} {n : Nat} {xs : List Value} (h : w.ownsRow 0 e m v n xs) (hk : ∀ g, v.ownBlock = some g → w'.heap[g]? = w.heap[g]?) : w'.ownsRow 0 e m v n xs := by
  refine ⟨h.1, ?_⟩
  rcases h.2 with h0 | ⟨g, cap, cur, hv, hb, hg, rest⟩
  · exact .inl h0
  · exact .inr ⟨g, cap, cur, hv, hb, by rw [hk g (by rw [hv]; rfl)]; exact hg, rest⟩

theorem row_below {w w' : World} {B : Nat} {e : TypeId} {m : Nat} {v : Value} {n : Nat} {xs : List Value} (h : w.ownsRow 0 e m v n xs) (hb : Below B w w') (hB : ∀ g, v.ownBlock = some g → g < B) : w'.ownsRow 0 e m v n xs :=
  row_kept h fun g hg => hb.block g (hB g hg)
theorem row_lt {w : World} {e : TypeId} {m : Nat} {v : Value} {n : Nat} {xs : List Value} (h : w.ownsRow 0 e m v n xs) {g : Nat} (hg : v.ownBlock = some g) : g < w.heap.size := (h.lt g hg).2

/-- a block of plain cells -/
def Blk (w : World) (b : Nat) (t : TypeId) (xs : List Value) : Prop := w.heap[b]? = some (.cells xs.toArray t (0, 0))
theorem Blk.cell {w : World} {b : Nat} {t : TypeId} {xs : List Value} (h : Blk w b t xs) {j : Nat} {v : Value} (hj : xs[j]? = some v) : w.cell? ⟨b, j, none⟩ = some v := by
  rw [cell_of_row w b j _ t (0, 0) h]; simpa using hj
theorem Blk.frozen {w : World} {b : Nat} {t : TypeId} {xs : List Value} (h : Blk w b t xs) (j : Nat) : w.frozen? ⟨b, j, none⟩ = false := by
  have h' : w.heap[b]? = some (.cells xs.toArray t (0, 0)) := h
  simp [World.frozen?, h']
theorem Blk.lt {w : World} {b : Nat} {t : TypeId} {xs : List Value} (h : Blk w b t xs) : b < w.heap.size := (Array.getElem?_eq_some_iff.1 (show w.heap[b]? = _ from h)).1
theorem Blk.below {w w' : World} {B b : Nat} {t : TypeId} {xs : List Value} (h : Blk w b t xs) (hb : Below B w w') (hB : b < B) : Blk w' b t xs := (hb.block b hB).trans h
theorem Blk.alloc (w : World) (t : TypeId) (xs : List Value) : Blk (w.alloc (.cells xs.toArray t)) w.heap.size t xs := heap_alloc_new w _
theorem Blk.setCell {w : World} {b : Nat} {t : TypeId} {xs : List Value} (h : Blk w b t xs) (j : Nat) (v : Value) : Blk (w.setCell ⟨b, j, none⟩ v) b t (xs.set j v) := by
  have h' : w.heap[b]? = some (.cells xs.toArray t (0, 0)) := h
  have hlt := h.lt
  simp only [Blk, World.setCell]
  rw [Array.getElem?_modify]
  simp [h']
theorem Blk.setCell_other {w : World} {b : Nat} {t : TypeId} {xs : List Value} (h : Blk w b t xs) (a : Addr) (v : Value) (hne : b ≠ a.block) : Blk (w.setCell a v) b t xs :=
  (Below.heap_setCell w a v b hne).trans h

end Go.Proofs.YtjikemhmnkckcabGreat
/- How the document's heap (granuleref.Heap) lies in memory. -/
namespace Go.Proofs.YtjikemhmnkckcabGreat
open Go.RowKit

structure RSt where
  st : Int
  rest : Int
  cls : List (Int × Int)
  log : List Ref.Ev
  marks : List (Int × Int × Int)

def clsCells (c : Int × Int) : List Value := [.int .i64 c.1, .int .i64 c.2]
def evCells (e : Ref.Ev) : List Value := [.bool e.back, .int .i64 e.cls, .int .i64 e.slot, .int .i64 e.tag, .int .i64 e.size, .int .i64 e.site]
def mkCells (m : Int × Int × Int) : List Value := [.int .i64 m.1, .int .i64 m.2.1, .int .i64 m.2.2]

structure RRep (w : World) (p : Nat) (vc vl vm : Value) (R : RSt) : Prop where
  blk : Blk w p 89 [.int .i64 R.st, .int .i64 R.rest, vc, vl, vm]
  cls : w.ownsRow 0 84 2 vc R.cls.length (R.cls.flatMap clsCells)
  log : w.ownsRow 0 131 6 vl R.log.length (R.log.flatMap evCells)
  marks : w.ownsRow 0 91 3 vm R.marks.length (R.marks.flatMap mkCells)
  apC : vc.ownBlock ≠ some p
  apL : vl.ownBlock ≠ some p
  apM : vm.ownBlock ≠ some p
  apCL : ∀ g, vc.ownBlock = some g → vl.ownBlock ≠ some g
  apCM : ∀ g, vc.ownBlock = some g → vm.ownBlock ≠ some g
  apLM : ∀ g, vl.ownBlock = some g → vm.ownBlock ≠ some g

theorem RRep.below {w w' : World} {p : Nat} {vc vl vm : Value} {R : RSt} (h : RRep w p vc vl vm R) (hb : Below w.heap.size w w') : RRep w' p vc vl vm R :=
  ⟨h.blk.below hb h.blk.lt, row_below h.cls hb fun _ => row_lt h.cls, row_below h.log hb fun _ => row_lt h.log, row_below h.marks hb fun _ => row_lt h.marks, h.apC, h.apL, h.apM, h.apCL, h.apCM, h.apLM⟩

/-- the event's cells, one by one -/
theorem ev_cells {w : World} {g : Nat} {log : List Ref.Ev} (hc : ∀ j u, (log.flatMap evCells)[j]? = some u → w.cell? ⟨g, j, none⟩ = some u) (i : Nat) (hi : i < log.length) :
    w.cell? ⟨g, i * 6, none⟩ = some (.bool (log.getD i Ref.Ev.no).back) ∧ w.cell? ⟨g, i * 6 + 1, none⟩ = some (.int .i64 (log.getD i Ref.Ev.no).cls) ∧ w.cell? ⟨g, i * 6 + 2, none⟩ = some (.int .i64 (log.getD i Ref.Ev.no).slot) ∧
    w.cell? ⟨g, i * 6 + 3, none⟩ = some (.int .i64 (log.getD i Ref.Ev.no).tag) ∧ w.cell? ⟨g, i * 6 + 4, none⟩ = some (.int .i64 (log.getD i Ref.Ev.no).size) ∧ w.cell? ⟨g, i * 6 + 5, none⟩ = some (.int .i64 (log.getD i Ref.Ev.no).site) := by
  have h6 : ∀ j, j < 6 → (log.flatMap evCells)[i * 6 + j]? = (evCells (log.getD i Ref.Ev.no))[j]? := fun j hj => by
    rw [flat_get evCells 6 (fun _ => rfl) log i j hj, List.getElem?_eq_getElem hi]
    simp [List.getD_eq_getElem?_getD, List.getElem?_eq_getElem hi]
  have hx := fun j (hj : j < 6) u hu => hc (i * 6 + j) u (by rw [h6 j hj]; exact hu)
  exact ⟨hx 0 (by omega) _ rfl, hx 1 (by omega) _ rfl, hx 2 (by omega) _ rfl, hx 3 (by omega) _ rfl, hx 4 (by omega) _ rfl, hx 5 (by omega) _ rfl⟩

theorem cls_cells {w : World} {g : Nat} {cls : List (Int × Int)} (hc : ∀ j u, (cls.flatMap clsCells)[j]? = some u → w.cell? ⟨g, j, none⟩ = some u) (i : Nat) (hi : i < cls.length) :
    w.cell? ⟨g, i * 2, none⟩ = some (.int .i64 (cls.getD i (0, 0)).1) ∧ w.cell? ⟨g, i * 2 + 1, none⟩ = some (.int .i64 (cls.getD i (0, 0)).2) := by
  have h6 : ∀ j, j < 2 → (cls.flatMap clsCells)[i * 2 + j]? = (clsCells (cls.getD i (0, 0)))[j]? := fun j hj => by
    rw [flat_get clsCells 2 (fun _ => rfl) cls i j hj, List.getElem?_eq_getElem hi]
    simp [List.getD_eq_getElem?_getD, List.getElem?_eq_getElem hi]
  have hx := fun j (hj : j < 2) u hu => hc (i * 2 + j) u (by rw [h6 j hj]; exact hu)
  exact ⟨hx 0 (by omega) _ rfl, hx 1 (by omega) _ rfl⟩
end Go.Proofs.YtjikemhmnkckcabGreat
/- Plain mathematics of Pick: the candidates in rising order, how many lie below one, how often each is picked. No program in sight. -/
namespace Go.Proofs.YtjikemhmnkckcabGreat
namespace PickMath

/-- those of 1 .. k that p lets, in rising order -/
def cs (p : Nat → Bool) : Nat → List Nat
  | 0 => []
  | k + 1 => if p (k + 1) then cs p k ++ [k + 1] else cs p k

theorem cs_len_le (p : Nat → Bool) (k : Nat) : (cs p k).length ≤ k := by
  induction k with
  | zero => simp [cs]
  | succ k ih =>
    simp only [cs]; split
    · rw [List.length_append, List.length_singleton]; omega
    · omega

theorem cs_more (p : Nat → Bool) {k : Nat} (h : p (k + 1) = true) : (cs p (k + 1)).length = (cs p k).length + 1 := by
  simp [cs, h]

theorem cs_same (p : Nat → Bool) {k : Nat} (h : p (k + 1) = false) : (cs p (k + 1)).length = (cs p k).length := by
  simp [cs, h]

theorem cs_mono (p : Nat → Bool) (k : Nat) : (cs p k).length ≤ (cs p (k + 1)).length := by
  simp only [cs]; split <;> simp

theorem cs_mono' (p : Nat → Bool) {j k : Nat} (h : j ≤ k) : (cs p j).length ≤ (cs p k).length := by
  induction k with
  | zero => obtain rfl : j = 0 := by omega
            exact Nat.le_refl _
  | succ k ih =>
    by_cases e : j = k + 1
    · subst e; exact Nat.le_refl _
    · exact Nat.le_trans (ih (by omega)) (cs_mono p k)

/-- the candidate t stands behind those below it -/
theorem cs_at (p : Nat → Bool) (n t : Nat) (h : t < n) (hp : p (t + 1) = true) : (cs p n)[(cs p t).length]? = some (t + 1) := by
  induction n with
  | zero => omega
  | succ n ih =>
    by_cases e : t = n
    · subst e; simp [cs, hp]
    · have hi := ih (by omega)
      simp only [cs]
      split
      · rw [List.getElem?_append_left]
        · exact hi
        · rcases Nat.lt_or_ge (cs p t).length (cs p n).length with h1 | h1
          · exact h1
          · rw [List.getElem?_eq_none h1] at hi; cases hi
      · exact hi

/-- two candidates with equally many below them are one -/
theorem cs_inj (p : Nat → Bool) {s t : Nat} (hs : p (s + 1) = true) (ht : p (t + 1) = true) (h : (cs p s).length = (cs p t).length) : s = t := by
  rcases Nat.lt_trichotomy s t with h1 | h1 | h1
  · have := cs_mono' p (j := s + 1) (k := t) (by omega)
    rw [cs_more p hs] at this; omega
  · exact h1
  · have := cs_mono' p (j := t + 1) (k := s) (by omega)
    rw [cs_more p ht] at this; omega

/-- each place of the list is some candidate's -/
theorem cs_get (p : Nat → Bool) (n j : Nat) (h : j < (cs p n).length) : ∃ t, t < n ∧ p (t + 1) = true ∧ (cs p t).length = j := by
  induction n with
  | zero => simp [cs] at h
  | succ n ih =>
    by_cases hp : p (n + 1) = true
    · by_cases e : j = (cs p n).length
      · exact ⟨n, by omega, hp, e.symm⟩
      · simp [cs, hp] at h
        obtain ⟨t, h1, h2, h3⟩ := ih (by omega)
        exact ⟨t, by omega, h2, h3⟩
    · simp [cs, hp] at h
      obtain ⟨t, h1, h2, h3⟩ := ih h
      exact ⟨t, by omega, h2, h3⟩

/-- is t none of the three? -/
def ok (l a b : Int) (t : Nat) : Bool := (decide ((t : Int) ≠ l) && decide ((t : Int) ≠ a)) && decide ((t : Int) ≠ b)

theorem ok_iff (l a b : Int) (t : Nat) : ok l a b t = true ↔ (t : Int) ≠ l ∧ (t : Int) ≠ a ∧ (t : Int) ≠ b := by
  simp [ok, and_assoc]

def one (x : Int) (k : Nat) : Nat := if 1 ≤ x ∧ x ≤ k then 1 else 0
theorem one_le (x : Int) (k : Nat) : one x k ≤ 1 := by unfold one; split <;> omega
theorem one_succ (x : Int) (k : Nat) : one x (k + 1) = one x k + if ((k + 1 : Nat) : Int) = x then 1 else 0 := by
  unfold one; split <;> split <;> split <;> omega

theorem cs_many (l a b : Int) (k : Nat) : k ≤ (cs (ok l a b) k).length + one l k + one a k + one b k := by
  induction k with
  | zero => simp
  | succ k ih =>
    rw [one_succ, one_succ, one_succ]
    by_cases h : ok l a b (k + 1) = true
    · simp only [cs, h, if_true, List.length_append, List.length_singleton]; omega
    · have h' : ((k + 1 : Nat) : Int) = l ∨ ((k + 1 : Nat) : Int) = a ∨ ((k + 1 : Nat) : Int) = b := by
        rw [ok_iff] at h; omega
      simp only [cs, h]
      rcases h' with h' | h' | h'
      · rw [if_pos h']; simp; omega
      · rw [if_pos (c := ((k + 1 : Nat) : Int) = a) h']; simp; omega
      · rw [if_pos (c := ((k + 1 : Nat) : Int) = b) h']; simp; omega

/-- how many candidates -/
def many (l a b : Int) : Nat := (cs (ok l a b) 14).length
theorem many_lo (l a b : Int) : 11 ≤ many l a b := by
  have := cs_many l a b 14; have := one_le l 14; have := one_le a 14; have := one_le b 14
  unfold many; omega
theorem many_hi (l a b : Int) : many l a b ≤ 14 := cs_len_le _ _

/-- the draw as it counts -/
def dr (d : Int) : Int := d % 12012
theorem dr_lo (d : Int) : 0 ≤ dr d := by unfold dr; omega
theorem dr_hi (d : Int) : dr d < 12012 := by unfold dr; omega
theorem dr_id {d : Int} (h0 : 0 ≤ d) (h1 : d < 12012) : dr d = d := by unfold dr; omega
theorem dr_dr (d : Int) : dr (dr d) = dr d := dr_id (dr_lo d) (dr_hi d)

theorem tmod_is (d : Int) : d.tmod 12012 = dr d ∨ d.tmod 12012 = dr d - 12012 := by
  rw [Int.tmod_eq_emod]; unfold dr; split
  · left; omega
  · right; rfl
theorem tmod_pos {d : Int} (h : ¬ d.tmod 12012 < 0) : d.tmod 12012 = dr d := by
  have := tmod_is d; have := dr_hi d; omega
theorem tmod_neg {d : Int} (h : d.tmod 12012 < 0) : d.tmod 12012 + 12012 = dr d := by
  have := tmod_is d; have := dr_lo d; omega
theorem tmod_lo (d : Int) : -12012 ≤ d.tmod 12012 := by
  have := tmod_is d; have := dr_lo d; omega
theorem tmod_hi (d : Int) : d.tmod 12012 < 12012 := by
  have := tmod_is d; have := dr_hi d; omega

/-- P5 -/
def pick (l a b d : Int) : Nat := (cs (ok l a b) 14).getD ((dr d).toNat % many l a b) 0

theorem pick_spec (l a b d : Int) : ∃ t, t < 14 ∧ ok l a b (t + 1) = true ∧ (cs (ok l a b) t).length = (dr d).toNat % many l a b ∧ pick l a b d = t + 1 := by
  have hm := many_lo l a b
  have hj : (dr d).toNat % many l a b < (cs (ok l a b) 14).length := Nat.mod_lt _ (by omega)
  obtain ⟨t, h1, h2, h3⟩ := cs_get _ _ _ hj
  refine ⟨t, h1, h2, h3, ?_⟩
  unfold pick
  rw [← h3, List.getD_eq_getElem?_getD, cs_at _ _ _ h1 h2]; rfl

theorem pick_lo (l a b d : Int) : 1 ≤ pick l a b d := by
  obtain ⟨t, _, _, _, h⟩ := pick_spec l a b d; omega
theorem pick_hi (l a b d : Int) : pick l a b d ≤ 14 := by
  obtain ⟨t, _, _, _, h⟩ := pick_spec l a b d; omega
theorem pick_ok (l a b d : Int) : ok l a b (pick l a b d) = true := by
  obtain ⟨t, _, h2, _, h⟩ := pick_spec l a b d; rw [h]; exact h2

theorem pick_of (l a b d : Int) (t : Nat) (h2 : ok l a b (t + 1) = true) (h3 : (cs (ok l a b) t).length = (dr d).toNat % many l a b) : pick l a b d = t + 1 := by
  obtain ⟨s, _, g2, g3, g4⟩ := pick_spec l a b d
  rw [g4, cs_inj _ g2 h2 (by rw [g3, h3])]

theorem pick_ne (l a b d : Int) (t : Nat) (h2 : ok l a b (t + 1) = true) (h3 : (cs (ok l a b) t).length ≠ (dr d).toNat % many l a b) : pick l a b d ≠ t + 1 := by
  obtain ⟨s, _, g2, g3, g4⟩ := pick_spec l a b d
  intro e
  have : s = t := by omega
  subst this
  exact h3 g3

/-- how many of the draws 0 .. n-1 pick t -/
def cnt (l a b : Int) (t : Nat) : Nat → Nat
  | 0 => 0
  | n + 1 => cnt l a b t n + if pick l a b (n : Int) = t then 1 else 0

theorem cnt_le (l a b : Int) (t n : Nat) : cnt l a b t n ≤ n := by
  induction n with
  | zero => simp [cnt]
  | succ n ih => simp only [cnt]; split <;> omega

theorem cnt_bad (l a b : Int) (t n : Nat) (h : ok l a b t = false) : cnt l a b t n = 0 := by
  induction n with
  | zero => rfl
  | succ n ih =>
    have : pick l a b (n : Int) ≠ t := by
      intro e; have := pick_ok l a b (n : Int); rw [e, h] at this; cases this
    simp [cnt, ih, this]

/-- how many of 0 .. n-1 leave j by m -/
def rem (m j : Nat) : Nat → Nat
  | 0 => 0
  | n + 1 => rem m j n + if n % m = j then 1 else 0

theorem rem_block (m j q : Nat) : ∀ r, r ≤ m → rem m j (q * m + r) = rem m j (q * m) + if j < r then 1 else 0 := by
  intro r
  induction r with
  | zero => intro _; simp
  | succ r ih =>
    intro h
    have hi := ih (by omega)
    have e : (q * m + r) % m = r := by
      rw [Nat.add_comm, Nat.add_mul_mod_self_right, Nat.mod_eq_of_lt (by omega)]
    have e2 : rem m j (q * m + (r + 1)) = rem m j (q * m + r) + if (q * m + r) % m = j then 1 else 0 := rfl
    rw [e2, hi, e]
    split <;> split <;> split <;> omega

theorem rem_mul (m j q : Nat) (hj : j < m) : rem m j (q * m) = q := by
  induction q with
  | zero => simp [rem]
  | succ q ih =>
    rw [Nat.succ_mul, rem_block m j q m (Nat.le_refl _), ih, if_pos hj]

theorem cnt_rem (l a b : Int) (t n : Nat) (h : ok l a b (t + 1) = true) (hn : n ≤ 12012) : cnt l a b (t + 1) n = rem (many l a b) (cs (ok l a b) t).length n := by
  induction n with
  | zero => rfl
  | succ n ih =>
    have hd : (dr (n : Int)).toNat = n := by rw [dr_id (by omega) (by omega)]; omega
    simp only [cnt, rem, ih (by omega)]
    by_cases e : n % many l a b = (cs (ok l a b) t).length
    · rw [if_pos e, if_pos (pick_of l a b n t h (by rw [hd, e]))]
    · rw [if_neg e, if_neg (pick_ne l a b n t h (by rw [hd]; exact fun x => e x.symm))]

theorem cnt_good (l a b : Int) (t : Nat) (ht : t < 14) (h : ok l a b (t + 1) = true) : cnt l a b (t + 1) 12012 * many l a b = 12012 := by
  have h1 := many_lo l a b
  have h2 := many_hi l a b
  have hj : (cs (ok l a b) t).length < many l a b := by
    have := cs_mono' (ok l a b) (j := t + 1) (k := 14) (by omega)
    rw [cs_more _ h] at this; unfold many; omega
  rw [cnt_rem l a b t 12012 h (Nat.le_refl _)]
  have hd : 12012 = 12012 / many l a b * many l a b := by
    have : many l a b = 11 ∨ many l a b = 12 ∨ many l a b = 13 ∨ many l a b = 14 := by omega
    rcases this with e | e | e | e <;> rw [e]
  have e : rem (many l a b) (cs (ok l a b) t).length 12012 = 12012 / many l a b := by
    conv => lhs; rw [hd]
    exact rem_mul _ _ _ hj
  rw [e]; exact hd.symm

end PickMath
end Go.Proofs.YtjikemhmnkckcabGreat
namespace Go.Proofs.YtjikemhmnkckcabGreat
open Go.RowKit

theorem ret_bool {a b : Bool} (h : a = b) : Ending.returned (.bool a) = .returned (.bool b) := by rw [h]
theorem ret_int {k : IntKind} {a b : Int} (h : a = b) : Ending.returned (.int k a) = .returned (.int k b) := by rw [h]

/-- candidate -/
def candB (t l a b : Int) : Bool := decide (1 ≤ t) && decide (t ≤ 14) && decide (t ≠ l) && decide (t ≠ a) && decide (t ≠ b)

set_option maxHeartbeats 400000 in
theorem cand_any (t l a b : Int) (w : World) :
    Calls Tryz.prog 151 #[.int .i64 t, .int .i64 l, .int .i64 a, .int .i64 b] w fun e w' => e = .returned (.bool (candB t l a b)) ∧ w' = w := by
  go_enter Tryz.func151, Tryz.ntmps151
  go_wp2
  all_goals go_ret
  all_goals refine ⟨ret_bool ?_, rfl⟩
  all_goals unfold candB
  all_goals first | (rw [Bool.eq_iff_iff]; simp; omega) | (simp; omega)

theorem candB_ok (t : Nat) (l a b : Int) (h1 : 1 ≤ t) (h2 : t ≤ 14) : candB t l a b = PickMath.ok l a b t := by
  rw [Bool.eq_iff_iff, PickMath.ok_iff]; simp [candB]; omega

set_option maxHeartbeats 400000 in
theorem below_any (t l a b : Int) (w : World) (h1 : 1 ≤ t) (h2 : t ≤ 15) :
    Calls Tryz.prog 150 #[.int .i64 t, .int .i64 l, .int .i64 a, .int .i64 b] w fun e w' => e = .returned (.int .i64 (PickMath.cs (PickMath.ok l a b) (t.toNat - 1)).length) ∧ w' = w := by
  go_enter Tryz.func150, Tryz.ntmps150
  go_wp2
  go_loop [9, 10] (fun n i => ∃ k : Nat, (k : Int) < t ∧ i = .int .i64 ((k : Int) + 1) ∧ n = .int .i64 (PickMath.cs (PickMath.ok l a b) k).length) (fun _ i => 15 - (intOf i).toNat)
  case atStart => exact ⟨0, by omega, rfl, rfl⟩
  case round =>
    obtain ⟨k, hk, rfl, rfl⟩ := hrel
    have hl := PickMath.cs_len_le (PickMath.ok l a b) k
    by_cases hlt : (k : Int) + 1 < t
    · have hc : Hid (candB ((k : Int) + 1) l a b = PickMath.ok l a b (k + 1)) := candB_ok (k + 1) l a b (by omega) (by omega)
      cases hok : PickMath.ok l a b (k + 1)
      · have hlen : Hid ((PickMath.cs (PickMath.ok l a b) (k + 1)).length = (PickMath.cs (PickMath.ok l a b) k).length) := PickMath.cs_same _ hok
        have hcc : Hid (candB ((k : Int) + 1) l a b = false) := by rw [hc.out, hok]; rfl
        clear hok hc
        go_wp2_with (go_at_call 151; refine (cand_any _ _ _ _ _).mono ?_; rintro e w' ⟨rfl, rfl⟩; rw [hcc.out])
        go_round
        case rel => exact ⟨k + 1, by omega, by go_num, by rw [hlen.out]⟩
        case measure => simp [intOf]; omega
      · have hlen : Hid ((PickMath.cs (PickMath.ok l a b) (k + 1)).length = (PickMath.cs (PickMath.ok l a b) k).length + 1) := PickMath.cs_more _ hok
        have hcc : Hid (candB ((k : Int) + 1) l a b = true) := by rw [hc.out, hok]; rfl
        clear hok hc
        go_wp2_with (go_at_call 151; refine (cand_any _ _ _ _ _).mono ?_; rintro e w' ⟨rfl, rfl⟩; rw [hcc.out])
        go_round
        case rel => exact ⟨k + 1, by omega, by go_num, by rw [hlen.out]; go_num⟩
        case measure => simp [intOf]; omega
    · go_wp2
      go_ret
      exact ⟨ret_int (by rw [show t.toNat - 1 = k by omega]), rfl⟩

set_option maxHeartbeats 400000 in
theorem rpick_any (l a b d : Int) (w : World) :
    Calls Tryz.prog 123 #[.int .i64 l, .int .i64 a, .int .i64 b, .int .i64 d] w fun e w' => e = .returned (.int .i64 (PickMath.pick l a b d)) ∧ w' = w := by
  have t1 := PickMath.tmod_lo d
  have t2 := PickMath.tmod_hi d
  have t3 := PickMath.dr_lo d
  have t4 := PickMath.dr_hi d
  have m1 := PickMath.many_lo l a b
  have m2 := PickMath.many_hi l a b
  by_cases hneg : d.tmod 12012 < 0
  all_goals
    go_enter Tryz.func123, Tryz.ntmps123
    go_wp2_with (go_at_call 150; refine (below_any _ _ _ _ _ (by omega) (by omega)).mono ?_; rintro e w' ⟨rfl, rfl⟩; rw [show (PickMath.cs (PickMath.ok l a b) (Int.toNat 15 - 1)).length = PickMath.many l a b from rfl])
    first | rw [PickMath.tmod_neg hneg] | rw [PickMath.tmod_pos (Int.not_lt.2 hneg)]
    clear hneg t1 t2
    have hmod : Hid (((PickMath.dr d).toNat % PickMath.many l a b : Nat) = (PickMath.dr d) % (PickMath.many l a b : Int)) := by
      show _ = _
      rw [Int.natCast_emod, Int.toNat_of_nonneg t3]
    go_loop [11] (fun i => ∃ k : Nat, k ≤ 14 ∧ i = .int .i64 ((k : Int) + 1) ∧ Hid (∀ s, s < k → PickMath.pick l a b d ≠ s + 1)) (fun i => 15 - (intOf i).toNat)
    case atStart => exact ⟨0, by omega, rfl, fun s hs => by omega⟩
    case round =>
      obtain ⟨k, hk, rfl, hno⟩ := hrel
      have hl := PickMath.cs_len_le (PickMath.ok l a b) k
      by_cases hlt : k < 14
      · have hc : Hid (candB ((k : Int) + 1) l a b = PickMath.ok l a b (k + 1)) := candB_ok (k + 1) l a b (by omega) (by omega)
        have hst : Hid (PickMath.pick l a b d ≠ k + 1 → ∀ s, s < k + 1 → PickMath.pick l a b d ≠ s + 1) := fun h s hs => by
          by_cases e : s = k
          · subst e; exact h
          · exact hno s (by omega)
        cases hok : PickMath.ok l a b (k + 1)
        · have hcc : Hid (candB ((k : Int) + 1) l a b = false) := by rw [hc.out, hok]; rfl
          have hne : Hid (PickMath.pick l a b d ≠ k + 1) := fun e => by
            have := PickMath.pick_ok l a b d; rw [e, hok] at this; cases this
          clear hok hc
          go_wp2_with (first | (go_at_call 151; refine (cand_any _ _ _ _ _).mono ?_; rintro e w' ⟨rfl, rfl⟩; rw [hcc.out]) | (go_at_call 150; refine (below_any _ _ _ _ _ (by omega) (by omega)).mono ?_; rintro e w' ⟨rfl, rfl⟩; rw [show ((k : Int) + 1).toNat - 1 = k from by omega]))
          go_round
          case rel => exact ⟨k + 1, by omega, by go_num, hst.out hne.out⟩
          case measure => simp [intOf]; omega
        · have hcc : Hid (candB ((k : Int) + 1) l a b = true) := by rw [hc.out, hok]; rfl
          by_cases heq : (PickMath.cs (PickMath.ok l a b) k).length = (PickMath.dr d).toNat % PickMath.many l a b
          · have hp : Hid (PickMath.pick l a b d = k + 1) := PickMath.pick_of l a b d k hok heq
            have hq : (((PickMath.cs (PickMath.ok l a b) k).length : Int) == (PickMath.dr d) % (PickMath.many l a b : Int)) = true := by
              rw [← hmod.out, heq]; simp
            clear hok hc heq
            go_wp2_with (first | (go_at_call 151; refine (cand_any _ _ _ _ _).mono ?_; rintro e w' ⟨rfl, rfl⟩; rw [hcc.out]) | (go_at_call 150; refine (below_any _ _ _ _ _ (by omega) (by omega)).mono ?_; rintro e w' ⟨rfl, rfl⟩; rw [show ((k : Int) + 1).toNat - 1 = k from by omega]))
            go_ret
            exact ⟨ret_int (by rw [hp.out]; omega), rfl⟩
          · have hp : Hid (PickMath.pick l a b d ≠ k + 1) := PickMath.pick_ne l a b d k hok heq
            have hq : (((PickMath.cs (PickMath.ok l a b) k).length : Int) == (PickMath.dr d) % (PickMath.many l a b : Int)) = false := by
              rw [← hmod.out, beq_eq_false_iff_ne]; omega
            clear hok hc heq
            go_wp2_with (first | (go_at_call 151; refine (cand_any _ _ _ _ _).mono ?_; rintro e w' ⟨rfl, rfl⟩; rw [hcc.out]) | (go_at_call 150; refine (below_any _ _ _ _ _ (by omega) (by omega)).mono ?_; rintro e w' ⟨rfl, rfl⟩; rw [show ((k : Int) + 1).toNat - 1 = k from by omega]))
            go_round
            case rel => exact ⟨k + 1, by omega, by go_num, hst.out hp.out⟩
            case measure => simp [intOf]; omega
      · exfalso
        obtain ⟨t, h1, _, _, h4⟩ := PickMath.pick_spec l a b d
        exact hno.out t (by omega) h4

/-- behind k rounds of granule.Pick's loop: the candidates so far lie at the head of the new array -/
structure PickRel (w : World) (l a b : Int) (k : Nat) (wr : World) : Prop where
  below : Below w.heap.size w wr
  there : ∀ j, j < 14 → ∃ v, wr.cell? ⟨w.heap.size, j, none⟩ = some v
  open_ : ∀ j, wr.frozen? ⟨w.heap.size, j, none⟩ = false
  here : ∀ j, j < (PickMath.cs (PickMath.ok l a b) k).length → wr.cell? ⟨w.heap.size, j, none⟩ = some (.int .i64 ((PickMath.cs (PickMath.ok l a b) k).getD j 0))

theorem PickRel.start (w : World) (l a b : Int) (c : Array Value) (t : TypeId) (hc : c.size = 14) : PickRel w l a b 0 (w.alloc (.cells c t)) :=
  ⟨(Below.refl _ _).alloc (Nat.le_refl _) _, fun j hj => ⟨c[j], by simp [World.cell?_alloc_new, hc, hj]⟩, fun j => by simp, fun j hj => by simp [PickMath.cs] at hj⟩

theorem PickRel.same {w : World} {l a b : Int} {k : Nat} {wr : World} (h : PickRel w l a b k wr) (hok : PickMath.ok l a b (k + 1) = false) : PickRel w l a b (k + 1) wr := by
  have e : PickMath.cs (PickMath.ok l a b) (k + 1) = PickMath.cs (PickMath.ok l a b) k := by simp [PickMath.cs, hok]
  exact ⟨h.below, h.there, h.open_, by rw [e]; exact h.here⟩

theorem PickRel.more {w : World} {l a b : Int} {k : Nat} {wr : World} (h : PickRel w l a b k wr) (hk : k < 14) (hok : PickMath.ok l a b (k + 1) = true) :
    PickRel w l a b (k + 1) (wr.setCell ⟨w.heap.size, (PickMath.cs (PickMath.ok l a b) k).length, none⟩ (.int .i64 ((k : Int) + 1))) := by
  have e : PickMath.cs (PickMath.ok l a b) (k + 1) = PickMath.cs (PickMath.ok l a b) k ++ [k + 1] := by simp [PickMath.cs, hok]
  have hl := PickMath.cs_len_le (PickMath.ok l a b) k
  obtain ⟨v0, hv0⟩ := h.there (PickMath.cs (PickMath.ok l a b) k).length (by omega)
  refine ⟨h.below.setCell (Nat.le_refl _) _, fun j hj => ?_, fun j => by rw [World.frozen?_setCell]; exact h.open_ j, fun j hj => ?_⟩
  · by_cases ej : j = (PickMath.cs (PickMath.ok l a b) k).length
    · subst ej; exact ⟨_, World.cell?_setCell_same _ _ _ hv0⟩
    · obtain ⟨v, hv⟩ := h.there j hj
      exact ⟨v, by rw [World.cell?_setCell_other _ _ _ _ (by intro x; injection x with _ x _; omega)]; exact hv⟩
  · rw [e] at hj ⊢
    by_cases ej : j = (PickMath.cs (PickMath.ok l a b) k).length
    · subst ej; rw [World.cell?_setCell_same _ _ _ hv0]; simp
    · have hj' : j < (PickMath.cs (PickMath.ok l a b) k).length := by simp at hj; omega
      rw [World.cell?_setCell_other _ _ _ _ (by intro x; injection x with _ x _; omega), h.here j hj']
      simp [List.getElem?_append_left hj']

set_option maxHeartbeats 400000 in
theorem gpick_any (l a b d : Int) (w : World) :
    Calls Tryz.prog 155 #[.int .i64 l, .int .i64 a, .int .i64 b, .int .i64 d] w fun e w' => e = .returned (.int .i64 (PickMath.pick l a b d)) ∧ Below w.heap.size w w' := by
  have t1 := PickMath.tmod_lo d
  have t2 := PickMath.tmod_hi d
  have t3 := PickMath.dr_lo d
  have t4 := PickMath.dr_hi d
  have m1 := PickMath.many_lo l a b
  have m2 := PickMath.many_hi l a b
  go_enter Tryz.func155, Tryz.ntmps155
  go_wp2_with fail
  go_loopw [10, 11] (fun c t wr => ∃ k : Nat, k ≤ 14 ∧ t = .int .i64 ((k : Int) + 1) ∧ c = .int .i64 (PickMath.cs (PickMath.ok l a b) k).length ∧ PickRel w l a b k wr) (fun _ t _ => 15 - (intOf t).toNat)
  case atStart => exact ⟨0, by omega, rfl, rfl, PickRel.start _ _ _ _ _ _ rfl⟩
  case round =>
    obtain ⟨k, hk, rfl, rfl, hr⟩ := hrel
    have hl := PickMath.cs_len_le (PickMath.ok l a b) k
    by_cases hlt : k < 14
    · cases hok : PickMath.ok l a b (k + 1)
      · have hs := hr.same hok
        have hlen : Hid ((PickMath.cs (PickMath.ok l a b) (k + 1)).length = (PickMath.cs (PickMath.ok l a b) k).length) := PickMath.cs_same _ hok
        have hno : (k : Int) + 1 = l ∨ (k : Int) + 1 = a ∨ (k : Int) + 1 = b := by
          have : ¬ PickMath.ok l a b (k + 1) = true := by rw [hok]; decide
          rw [PickMath.ok_iff] at this; omega
        clear hok hr
        cases b1 : ((k : Int) + 1 != l) <;> cases b2 : ((k : Int) + 1 != a) <;> cases b3 : ((k : Int) + 1 != b)
        case true.true.true => rw [bne_iff_ne] at b1 b2 b3; omega
        all_goals
          clear hno
          go_wp2
          go_roundw
          case rel => exact ⟨k + 1, by omega, by go_num, by rw [hlen.out], hs⟩
          case measure => simp [intOf]; omega
      · have hs := hr.more hlt hok
        have hlen : Hid ((PickMath.cs (PickMath.ok l a b) (k + 1)).length = (PickMath.cs (PickMath.ok l a b) k).length + 1) := PickMath.cs_more _ hok
        obtain ⟨v0, hv0⟩ := hr.there (PickMath.cs (PickMath.ok l a b) k).length (by omega)
        have hf0 := hr.open_ (PickMath.cs (PickMath.ok l a b) k).length
        obtain ⟨n1, n2, n3⟩ := (PickMath.ok_iff _ _ _ _).1 hok
        have n1 : ((k : Int) + 1 != l) = true := by rw [bne_iff_ne]; omega
        have n2 : ((k : Int) + 1 != a) = true := by rw [bne_iff_ne]; omega
        have n3 : ((k : Int) + 1 != b) = true := by rw [bne_iff_ne]; omega
        clear hok
        go_wp2
        go_roundw
        case rel => exact ⟨k + 1, by omega, by go_num, by rw [hlen.out]; go_num, hs⟩
        case measure => simp [intOf]; omega
    · obtain rfl : k = 14 := by omega
      have hmod : ((PickMath.dr d).toNat % PickMath.many l a b : Nat) = (PickMath.dr d) % (PickMath.many l a b : Int) := by
        rw [Int.natCast_emod, Int.toNat_of_nonneg t3]
      have hlt2 : (PickMath.dr d).toNat % PickMath.many l a b < PickMath.many l a b := Nat.mod_lt _ (by omega)
      have hv := hr.here ((PickMath.dr d).toNat % PickMath.many l a b) hlt2
      have hbl := hr.below
      have hp : Hid (PickMath.pick l a b d = (PickMath.cs (PickMath.ok l a b) 14).getD ((PickMath.dr d).toNat % PickMath.many l a b) 0) := rfl
      have hbd : 0 ≤ (PickMath.dr d) % (PickMath.many l a b : Int) := by rw [← hmod]; omega
      have hbd2 : (PickMath.dr d) % (PickMath.many l a b : Int) < 14 := by rw [← hmod]; omega
      have hmod2 : Hid (((PickMath.dr d) % (PickMath.many l a b : Int)).toNat = (PickMath.dr d).toNat % PickMath.many l a b) := by rw [← hmod]; rfl
      rw [← hmod2.out] at hv hp
      clear hmod hlt2
      have e : (PickMath.cs (PickMath.ok l a b) 14).length = PickMath.many l a b := rfl
      rw [e]
      clear e hl
      generalize (PickMath.cs (PickMath.ok l a b) 14).getD ((PickMath.dr d) % (PickMath.many l a b : Int)).toNat 0 = res at hv hp
      by_cases hneg : d.tmod 12012 < 0
      · rw [← PickMath.tmod_neg hneg] at *
        go_wp2
        go_ret
        exact ⟨ret_int (by rw [hp.out]), hbl⟩
      · rw [← PickMath.tmod_pos hneg] at *
        go_wp2
        go_ret
        exact ⟨ret_int (by rw [hp.out]), hbl⟩

end Go.Proofs.YtjikemhmnkckcabGreat
