import Derived.Test.YtjikemhmnkckcabJ14
import Derived.Test.YtjikemhmnkckcabJ22
/- The book (granulekeep.Book) in memory. -/
namespace Go.Proofs.Ytjikemhmnkckcab
open Go.RowKit

structure KBlk where
  p : Int
  k : Int
  s : Int
  want : List Int
  wb : Nat
  live : Bool
  site : Int
  gone : Int
def KBlk.no : KBlk := ⟨0, 0, 0, [], 0, false, 0, 0⟩
def kblkCells (x : KBlk) : List Value := [.int .i64 x.p, .int .i64 x.k, .int .i64 x.s, .slice (some ⟨x.wb, 0, none⟩) x.want.length x.want.length, .bool x.live, .int .i64 x.site, .int .i64 x.gone]
def spotCells (x : Int × Int) : List Value := [.int .i64 x.1, .int .i64 x.2]
def spotNo : Int × Int := (0, 0)

structure KSt where
  st : Int
  rest : Int
  cls : List (Int × Int)
  L : List KBlk
  F : List (Int × Int)
  now : Int

def KBlk.off (x : KBlk) (now : Int) : KBlk := ⟨x.p, x.k, x.s, x.want, x.wb, false, x.site, now⟩
def kleft (B : KSt) (i : Nat) : KSt := ⟨B.st, B.rest, B.cls, B.L.set i ((B.L.getD i KBlk.no).off B.now), B.F ++ [((B.L.getD i KBlk.no).k, (B.L.getD i KBlk.no).s)], B.now⟩

/-- the book's own blocks: who is who -/
structure KSep (col : Nat → Nat) (pb ph : Nat) (gc : Value) (bb : Nat) (G : GSt) (vc vL vF : Value) (L : List KBlk) : Prop where
  pb : col pb = 0
  vc : ∀ b, vc.ownBlock = some b → col b = 1
  g : ∀ b, GFoot ph gc bb G b → col b = 2
  vL : ∀ b, vL.ownBlock = some b → col b = 3
  vF : ∀ b, vF.ownBlock = some b → col b = 4
  want : ∀ i, i < L.length → col (L.getD i KBlk.no).wb = 5 + i

def KFoot (pb ph : Nat) (gc : Value) (bb : Nat) (G : GSt) (vc vL vF : Value) (L : List KBlk) (b : Nat) : Prop :=
  b = pb ∨ vc.ownBlock = some b ∨ GFoot ph gc bb G b ∨ vL.ownBlock = some b ∨ vF.ownBlock = some b ∨ ∃ i, i < L.length ∧ b = (L.getD i KBlk.no).wb

section
variable {w w' : World} {pb ph : Nat} {gc : Value} {bb : Nat} {G G' : GSt} {vc vL vF : Value} {B : KSt}
end

/-- a block's cells -/
theorem kblk_cells {w : World} {g : Nat} {L : List KBlk} (hc : ∀ j u, (L.flatMap kblkCells)[j]? = some u → w.cell? ⟨g, j, none⟩ = some u) (i : Nat) (hi : i < L.length) :
    w.cell? ⟨g, i * 7, none⟩ = some (.int .i64 (L.getD i KBlk.no).p) ∧ w.cell? ⟨g, i * 7 + 1, none⟩ = some (.int .i64 (L.getD i KBlk.no).k) ∧ w.cell? ⟨g, i * 7 + 2, none⟩ = some (.int .i64 (L.getD i KBlk.no).s) ∧
    w.cell? ⟨g, i * 7 + 3, none⟩ = some (.slice (some ⟨(L.getD i KBlk.no).wb, 0, none⟩) (L.getD i KBlk.no).want.length (L.getD i KBlk.no).want.length) ∧ w.cell? ⟨g, i * 7 + 4, none⟩ = some (.bool (L.getD i KBlk.no).live) ∧
    w.cell? ⟨g, i * 7 + 5, none⟩ = some (.int .i64 (L.getD i KBlk.no).site) ∧ w.cell? ⟨g, i * 7 + 6, none⟩ = some (.int .i64 (L.getD i KBlk.no).gone) := by
  have h6 : ∀ j, j < 7 → (L.flatMap kblkCells)[i * 7 + j]? = (kblkCells (L.getD i KBlk.no))[j]? := fun j hj => by
    rw [flat_get kblkCells 7 (fun _ => rfl) L i j hj, List.getElem?_eq_getElem hi]
    simp [List.getD_eq_getElem?_getD, List.getElem?_eq_getElem hi]
  have hx := fun j (hj : j < 7) u hu => hc (i * 7 + j) u (by rw [h6 j hj]; exact hu)
  exact ⟨hx 0 (by omega) _ rfl, hx 1 (by omega) _ rfl, hx 2 (by omega) _ rfl, hx 3 (by omega) _ rfl, hx 4 (by omega) _ rfl, hx 5 (by omega) _ rfl, hx 6 (by omega) _ rfl⟩
theorem spot_cells {w : World} {g : Nat} {F : List (Int × Int)} (hc : ∀ j u, (F.flatMap spotCells)[j]? = some u → w.cell? ⟨g, j, none⟩ = some u) (i : Nat) (hi : i < F.length) :
    w.cell? ⟨g, i * 2, none⟩ = some (.int .i64 (F.getD i spotNo).1) ∧ w.cell? ⟨g, i * 2 + 1, none⟩ = some (.int .i64 (F.getD i spotNo).2) := by
  have h6 : ∀ j, j < 2 → (F.flatMap spotCells)[i * 2 + j]? = (spotCells (F.getD i spotNo))[j]? := fun j hj => by
    rw [flat_get spotCells 2 (fun _ => rfl) F i j hj, List.getElem?_eq_getElem hi]
    simp [List.getD_eq_getElem?_getD, List.getElem?_eq_getElem hi]
  have hx := fun j (hj : j < 2) u hu => hc (i * 2 + j) u (by rw [h6 j hj]; exact hu)
  exact ⟨hx 0 (by omega) _ rfl, hx 1 (by omega) _ rfl⟩

/-- is there a live block in the slot, among the first m? -/
def kliveTo (L : List KBlk) (k s : Int) : Nat → Bool
  | 0 => false
  | m + 1 => kliveTo L k s m || ((L.getD m KBlk.no).live && (L.getD m KBlk.no).k == k && (L.getD m KBlk.no).s == s)
def klive (L : List KBlk) (k s : Int) : Bool := kliveTo L k s L.length
theorem kliveTo_yes {L : List KBlk} {k s : Int} {m n : Nat} (hm : m < n) (h : ((L.getD m KBlk.no).live && (L.getD m KBlk.no).k == k && (L.getD m KBlk.no).s == s) = true) : kliveTo L k s n = true := by
  induction n with
  | zero => omega
  | succ n ih =>
    simp only [kliveTo]
    by_cases e : m = n
    · subst e; rw [h]; simp
    · rw [ih (by omega)]; rfl

end Go.Proofs.Ytjikemhmnkckcab
/- The book's questions: rests, full, expect. -/
namespace Go.Proofs.Ytjikemhmnkckcab
open Go.RowKit

/-- looking back from the free m on, n frees of the class were met: does the slot rest? -/
def krestTo (F : List (Int × Int)) (rest k s : Int) : Nat → Int → Bool
  | 0, _ => false
  | m + 1, n => if n < rest then (if (F.getD m spotNo).1 = k then (if (F.getD m spotNo).2 = s then true else krestTo F rest k s m (n + 1)) else krestTo F rest k s m n) else false
def krests (F : List (Int × Int)) (rest k s : Int) : Bool := krestTo F rest k s F.length 0

/-- how many live blocks of the class are among the first m -/
def kliveN (L : List KBlk) (k : Int) : Nat → Nat
  | 0 => 0
  | m + 1 => kliveN L k m + if (L.getD m KBlk.no).live = true ∧ (L.getD m KBlk.no).k = k then 1 else 0
/-- .. frees, but at most rest -/
def kfreeN (F : List (Int × Int)) (rest k : Int) : Nat → Int
  | 0 => 0
  | m + 1 => if (F.getD m spotNo).1 = k ∧ kfreeN F rest k m < rest then kfreeN F rest k m + 1 else kfreeN F rest k m
theorem kliveN_le (L : List KBlk) (k : Int) (m : Nat) : kliveN L k m ≤ m := by
  induction m with
  | zero => simp [kliveN]
  | succ m ih => simp only [kliveN]; split <;> omega
theorem kfreeN_bd (F : List (Int × Int)) (rest k : Int) (m : Nat) (hr : 0 ≤ rest) : 0 ≤ kfreeN F rest k m ∧ kfreeN F rest k m ≤ rest := by
  induction m with
  | zero => simp [kfreeN]; exact hr
  | succ m ih => simp only [kfreeN]; split <;> omega
def kfull (B : KSt) (k : Nat) : Bool := decide (Cf.sl B.cls k ≤ (kliveN B.L k B.L.length : Int) + kfreeN B.F B.rest k B.F.length)

end Go.Proofs.Ytjikemhmnkckcab
