import Derived.Test.YtjikemhmnkckcabProg
import Derived.Test.YtjikemhmnkckcabRep
import Derived.BigQuiet
import Derived.Deep.QuietTactic
/- How the document's heap (granuleref.Heap) lies in memory. -/
namespace Go.Proofs.Ytjikemhmnkckcab
open Go.RowKit

structure RSt where
  st : Int
  rest : Int
  cls : List (Int × Int)
  log : List Ref.Ev
  marks : List (Int × Int × Int)

def clsCells (c : Int × Int) : List Value := [.int .i64 c.1, .int .i64 c.2]
def evCells (e : Ref.Ev) : List Value := [.bool e.back, .int .i64 e.cls, .int .i64 e.slot, .int .i64 e.tag, .int .i64 e.size, .int .i64 e.site]
def mkCells (m : Int × Int × Int) : List Value := [.int .i64 m.1, .int .i64 m.2.1, .int .i64 m.2.2]

/-- the event's cells, one by one -/
theorem ev_cells {w : World} {g : Nat} {log : List Ref.Ev} (hc : ∀ j u, (log.flatMap evCells)[j]? = some u → w.cell? ⟨g, j, none⟩ = some u) (i : Nat) (hi : i < log.length) :
    w.cell? ⟨g, i * 6, none⟩ = some (.bool (log.getD i Ref.Ev.no).back) ∧ w.cell? ⟨g, i * 6 + 1, none⟩ = some (.int .i64 (log.getD i Ref.Ev.no).cls) ∧ w.cell? ⟨g, i * 6 + 2, none⟩ = some (.int .i64 (log.getD i Ref.Ev.no).slot) ∧
    w.cell? ⟨g, i * 6 + 3, none⟩ = some (.int .i64 (log.getD i Ref.Ev.no).tag) ∧ w.cell? ⟨g, i * 6 + 4, none⟩ = some (.int .i64 (log.getD i Ref.Ev.no).size) ∧ w.cell? ⟨g, i * 6 + 5, none⟩ = some (.int .i64 (log.getD i Ref.Ev.no).site) := by
  have h6 : ∀ j, j < 6 → (log.flatMap evCells)[i * 6 + j]? = (evCells (log.getD i Ref.Ev.no))[j]? := fun j hj => by
    rw [flat_get evCells 6 (fun _ => rfl) log i j hj, List.getElem?_eq_getElem hi]
    simp [List.getD_eq_getElem?_getD, List.getElem?_eq_getElem hi]
  have hx := fun j (hj : j < 6) u hu => hc (i * 6 + j) u (by rw [h6 j hj]; exact hu)
  exact ⟨hx 0 (by omega) _ rfl, hx 1 (by omega) _ rfl, hx 2 (by omega) _ rfl, hx 3 (by omega) _ rfl, hx 4 (by omega) _ rfl, hx 5 (by omega) _ rfl⟩

theorem cls_cells {w : World} {g : Nat} {cls : List (Int × Int)} (hc : ∀ j u, (cls.flatMap clsCells)[j]? = some u → w.cell? ⟨g, j, none⟩ = some u) (i : Nat) (hi : i < cls.length) :
    w.cell? ⟨g, i * 2, none⟩ = some (.int .i64 (cls.getD i (0, 0)).1) ∧ w.cell? ⟨g, i * 2 + 1, none⟩ = some (.int .i64 (cls.getD i (0, 0)).2) := by
  have h6 : ∀ j, j < 2 → (cls.flatMap clsCells)[i * 2 + j]? = (clsCells (cls.getD i (0, 0)))[j]? := fun j hj => by
    rw [flat_get clsCells 2 (fun _ => rfl) cls i j hj, List.getElem?_eq_getElem hi]
    simp [List.getD_eq_getElem?_getD, List.getElem?_eq_getElem hi]
  have hx := fun j (hj : j < 2) u hu => hc (i * 2 + j) u (by rw [h6 j hj]; exact hu)
  exact ⟨hx 0 (by omega) _ rfl, hx 1 (by omega) _ rfl⟩
end Go.Proofs.Ytjikemhmnkckcab
