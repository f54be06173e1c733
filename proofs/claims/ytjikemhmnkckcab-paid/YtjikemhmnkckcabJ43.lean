import Derived.Test.YtjikemhmnkckcabJ42
/- The document's report on an address within a slot. -/
namespace Go.Proofs.Ytjikemhmnkckcab
open Go.RowKit

def lieAt (s m : Nat) (stt x : Int) : Int := if s < m ∧ stt ≠ 2 then x else 0
theorem lieAt_same {s m : Nat} {stt x : Int} (h : s = m → stt = 2) : lieAt s (m + 1) stt x = lieAt s m stt x := by
  unfold lieAt
  by_cases c : s < m ∧ stt ≠ 2
  · rw [if_pos c, if_pos ⟨by omega, c.2⟩]
  · rw [if_neg c, if_neg (fun y => c ⟨by have := fun e => y.2 (h e); omega, y.2⟩)]
theorem lieAt_end {s m : Nat} {stt x : Int} (h : s < m) : lieAt s m stt x = if stt = 2 then 0 else x := by
  unfold lieAt
  by_cases c : stt = 2
  · rw [if_pos c, if_neg (fun y => y.2 c)]
  · rw [if_neg c, if_pos ⟨h, c⟩]
theorem lieAt_new {s : Nat} {stt x : Int} (h : stt ≠ 2) : lieAt s (s + 1) stt x = x := if_pos ⟨by omega, h⟩
/-- the report while the slots of the class are gone through -/
structure LieRel (w : World) (ob rb : Nat) (r : Rpt) (l : List (Int × Int × Int)) (v : Value) (wr : World) : Prop where
  near : NearRel w l v wr
  obk : Blk wr ob 47 (rptCells r v)
  rbk : Blk wr rb 47 (rptCells (Rpt.only 0) (.slice none 0 0))
  ap : ∀ g, v.ownBlock = some g → g ≠ ob ∧ g ≠ rb
theorem LieRel.later {w wr w' : World} {ob rb : Nat} {r : Rpt} {l : List (Int × Int × Int)} {v : Value} (h : LieRel w ob rb r l v wr) (b : Below wr.heap.size wr w') : LieRel w ob rb r l v w' :=
  ⟨h.near.later b, h.obk.below b h.obk.lt, h.rbk.below b h.rbk.lt, h.ap⟩
/-- a cell of the report is written that is not the list -/
theorem LieRel.put {w wr : World} {ob rb : Nat} {r r' : Rpt} {l : List (Int × Int × Int)} {v : Value} (h : LieRel w ob rb r l v wr) (j : Nat) (u : Value) (hob : w.heap.size ≤ ob) (hne : rb ≠ ob) (hr : (rptCells r v).set j u = rptCells r' v) : LieRel w ob rb r' l v (wr.setCell ⟨ob, j, none⟩ u) := by
  refine ⟨⟨h.near.below.setCell (p := ⟨ob, j, none⟩) hob u, row_kept h.near.row (fun g hg => Below.heap_setCell _ _ _ g (h.ap g hg).1), h.near.vlo⟩, ?_, h.rbk.setCell_other ⟨ob, j, none⟩ u hne, h.ap⟩
  rw [← hr]; exact h.obk.setCell j u
/-- the list grows -/
theorem LieRel.step {w wr : World} {ob rb : Nat} {r : Rpt} {l : List (Int × Int × Int)} {v : Value} (h : LieRel w ob rb r l v wr) (hob : w.heap.size ≤ ob) (hne : rb ≠ ob) (x : Int × Int × Int) {cs : Array Value} {t : TypeId} {w2 : World} {gg cap2 : Nat}
    (hown1 : w2.ownsRow 0 126 3 (.slice (some ⟨gg, 0, none⟩) (l.length + 1) cap2) (l.length + 1) (l.flatMap nearCells ++ nearCells x))
    (hgrow : (wr.alloc (.cells cs t)).grownBy w2 v.ownBlock) (hat : v.ownBlock = some gg ∨ gg = wr.heap.size + 1) :
    LieRel w ob rb r (l ++ [x]) (.slice (some ⟨gg, 0, none⟩) (l.length + 1) cap2) (w2.setCell ⟨ob, 9, none⟩ (.slice (some ⟨gg, 0, none⟩) (l.length + 1) cap2)) := by
  have hol := h.obk.lt
  have hrl := h.rbk.lt
  have hn := h.near.step x hown1 hgrow hat
  have hgg : gg ≠ ob ∧ gg ≠ rb := by
    rcases hat with e | e
    · exact h.ap gg e
    · omega
  have hap : ∀ g, (Value.slice (some ⟨gg, 0, none⟩) (l.length + 1) cap2).ownBlock = some g → g ≠ ob ∧ g ≠ rb := fun g hg => by
    simp [Value.ownBlock] at hg
    subst hg
    exact hgg
  have hov : some ob ≠ v.ownBlock := fun e => (h.ap ob e.symm).1 rfl
  have hrv : some rb ≠ v.ownBlock := fun e => (h.ap rb e.symm).2 rfl
  have hob2 : Blk w2 ob 47 (rptCells r v) := by
    have e1 := hgrow.block ob (by rw [World.size_alloc]; omega) hov
    exact (e1.trans (Below.heap_alloc wr _ ob hol)).trans h.obk
  have hrb2 : Blk w2 rb 47 (rptCells (Rpt.only 0) (.slice none 0 0)) := by
    have e1 := hgrow.block rb (by rw [World.size_alloc]; omega) hrv
    exact (e1.trans (Below.heap_alloc wr _ rb hrl)).trans h.rbk
  exact ⟨⟨hn.below.setCell (p := ⟨ob, 9, none⟩) hob _, row_kept hn.row (fun g hg => Below.heap_setCell _ _ _ g (hap g hg).1), hn.vlo⟩, hob2.setCell 9 _, hrb2.setCell_other ⟨ob, 9, none⟩ _ hne, hap⟩

end Go.Proofs.Ytjikemhmnkckcab
