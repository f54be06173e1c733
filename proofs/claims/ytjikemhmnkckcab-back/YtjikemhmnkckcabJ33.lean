import Derived.Test.YtjikemhmnkckcabJ31
import Derived.Test.YtjikemhmnkckcabJ24
import Derived.Deep.RegionLaw
/- The book's expect and came. -/
namespace Go.Proofs.Ytjikemhmnkckcab
open Go.RowKit

/-- the error that a Malloc must have -/
def kexpect (B : KSt) (size : Int) : Int := if gcls B.cls size < 0 then 3 else if kfull B (gcls B.cls size).toNat then 4 else 0

theorem gcls_cases (cls : List (Int × Int)) (size : Int) : gcls cls size = -1 ∨ ∃ k : Nat, gcls cls size = (k : Int) ∧ k < cls.length ∧ 1 ≤ size ∧ size ≤ 16 * Cf.gr cls k ∧ Ref.cls_ cls size = k := by
  unfold gcls
  by_cases h : size < 1 ∨ Ref.cls_ cls size = cls.length
  · rw [if_pos h]; exact .inl rfl
  · rw [if_neg h]
    have := Ref.cls_le cls size
    exact .inr ⟨_, rfl, by omega, by omega, Ref.cls_at cls size (by omega), rfl⟩

end Go.Proofs.Ytjikemhmnkckcab
/- Writing into the book. -/
namespace Go.Proofs.Ytjikemhmnkckcab
open Go.RowKit

theorem row_set {w : World} {e : TypeId} {m : Nat} {n : Nat} {xs : List Value} {g cap : Nat} (h : w.ownsRow 0 e m (.slice (some ⟨g, 0, none⟩) n cap) n xs) (j : Nat) (x : Value) : (w.setCell ⟨g, j, none⟩ x).ownsRow 0 e m (.slice (some ⟨g, 0, none⟩) n cap) n (xs.set j x) := by
  refine ⟨by rw [List.length_set]; exact h.1, ?_⟩
  rcases h.2 with ⟨e0, _⟩ | ⟨g', cap', cur, hv, _, hg, hnc, hcm, hcs, htake⟩
  · cases e0
  · injection hv with e1 e2 e3
    injection e1 with e1
    injection e1 with e1 _ _
    subst e1
    subst e3
    have hb : Blk w g e cur.toList := by unfold Blk; rw [hg]
    have hb2 := hb.setCell j x
    unfold Blk at hb2
    refine .inr ⟨g, cap, (cur.toList.set j x).toArray, rfl, Nat.zero_le _, hb2, hnc, hcm, ?_, ?_⟩
    · rw [List.size_toArray, List.length_set, Array.length_toList]; exact hcs
    · rw [List.toList_toArray, ← htake, List.take_set]

def KBlk.withWant (x : KBlk) (want : List Int) : KBlk := ⟨x.p, x.k, x.s, want, x.wb, x.live, x.site, x.gone⟩
theorem getD_setL (L : List KBlk) (i j : Nat) (x : KBlk) (hi : i < L.length) : (L.set i x).getD j KBlk.no = if j = i then x else L.getD j KBlk.no := by
  simp only [List.getD_eq_getElem?_getD, List.getElem?_set]
  by_cases h : i = j
  · subst h; simp [hi]
  · rw [if_neg h, if_neg (fun e => h e.symm)]

section
variable {w w' : World} {pb ph : Nat} {gc : Value} {bb : Nat} {G : GSt} {vc vL vF : Value} {B : KSt}
end
end Go.Proofs.Ytjikemhmnkckcab
