import Derived.Test.YtjikemhmnkckcabJ14
import Derived.Deep.RegionLaw
/- Malloc and Free of both heaps, each by one contract. -/
namespace Go.Proofs.Ytjikemhmnkckcab
open Go.RowKit

/-- what Malloc answers: the pointer, the error -/
def mOut (R : RSt) (size draw : Int) : Int × Int :=
  if size < 1 ∨ Ref.cls_ R.cls size = R.cls.length then (0, 3)
  else if Ref.first R.log R.rest R.cls (Ref.cls_ R.cls size) < 0 then (0, 4)
  else ((Ref.tagOf R.log (Ref.cls_ R.cls size) (Ref.first R.log R.rest R.cls (Ref.cls_ R.cls size)).toNat draw : Int) * 72057594037927936 + Cf.begin_ R.st R.cls (Ref.cls_ R.cls size) ((Ref.first R.log R.rest R.cls (Ref.cls_ R.cls size)).toNat : Int), 0)
def mEv (R : RSt) (size draw site : Int) : Ref.Ev :=
  ⟨false, (Ref.cls_ R.cls size : Int), ((Ref.first R.log R.rest R.cls (Ref.cls_ R.cls size)).toNat : Int), (Ref.tagOf R.log (Ref.cls_ R.cls size) (Ref.first R.log R.rest R.cls (Ref.cls_ R.cls size)).toNat draw : Int), Ref.gsz size, site⟩
def mR (R : RSt) (size draw site : Int) : RSt := if (mOut R size draw).2 = 0 then ⟨R.st, R.rest, R.cls, R.log ++ [mEv R size draw site], R.marks⟩ else R
def mG (G : GSt) (R : RSt) (size draw site : Int) : GSt :=
  if (mOut R size draw).2 = 0 then
    GSt.withSlots ⟨G.st, G.rest, G.cs, clearTo G.mem (Cf.begin_ G.st R.cls (Ref.cls_ R.cls size) ((Ref.first R.log R.rest R.cls (Ref.cls_ R.cls size)).toNat : Int)).toNat (16 * Ref.gsz size).toNat⟩ (Ref.cls_ R.cls size)
      ((G.cs.getD (Ref.cls_ R.cls size) GCls.no).slots.set (Ref.first R.log R.rest R.cls (Ref.cls_ R.cls size)).toNat ⟨3, (Ref.tagOf R.log (Ref.cls_ R.cls size) (Ref.first R.log R.rest R.cls (Ref.cls_ R.cls size)).toNat draw : Int), 16 * Ref.gsz size, 0, site, 0⟩)
  else G

/-- the three cases -/
theorem mOut_cases (R : RSt) (_ho : ROk R) (size draw : Int) :
    ((size < 1 ∨ Ref.cls_ R.cls size = R.cls.length) ∧ mOut R size draw = (0, 3)) ∨
    (∃ k, 1 ≤ size ∧ Ref.cls_ R.cls size = k ∧ k < R.cls.length ∧ Ref.first R.log R.rest R.cls k < 0 ∧ mOut R size draw = (0, 4)) ∨
    (∃ k s : Nat, 1 ≤ size ∧ Ref.cls_ R.cls size = k ∧ k < R.cls.length ∧ Ref.first R.log R.rest R.cls k = (s : Int) ∧ s < (Cf.sl R.cls k).toNat ∧ size ≤ 16 * Cf.gr R.cls k ∧
      mOut R size draw = ((Ref.tagOf R.log k s draw : Int) * 72057594037927936 + Cf.begin_ R.st R.cls k s, 0)) := by
  unfold mOut
  by_cases h : size < 1 ∨ Ref.cls_ R.cls size = R.cls.length
  · exact .inl ⟨h, if_pos h⟩
  · rw [if_neg h]
    have hle := Ref.cls_le R.cls size
    right
    by_cases h2 : Ref.first R.log R.rest R.cls (Ref.cls_ R.cls size) < 0
    · exact .inl ⟨_, by omega, rfl, by omega, h2, if_pos h2⟩
    · right
      obtain ⟨s, hs⟩ := Int.eq_ofNat_of_zero_le (show 0 ≤ Ref.first R.log R.rest R.cls (Ref.cls_ R.cls size) by omega)
      refine ⟨Ref.cls_ R.cls size, s, by omega, rfl, by omega, hs, ?_, Ref.cls_at R.cls size (by omega), ?_⟩
      · have := Ref.firstFrom_hi (Ref.openB R.log R.rest (Ref.cls_ R.cls size)) (Cf.sl R.cls (Ref.cls_ R.cls size)).toNat 0
        unfold Ref.first at hs; omega
      · rw [if_neg h2, hs, Int.toNat_natCast]

theorem mR_ok {R : RSt} {size draw site : Int} {k s : Nat} (hk : Ref.cls_ R.cls size = k) (hf : Ref.first R.log R.rest R.cls k = (s : Int)) (hm : (mOut R size draw).2 = 0) :
    mR R size draw site = ⟨R.st, R.rest, R.cls, R.log ++ [⟨false, k, s, Ref.tagOf R.log k s draw, Ref.gsz size, site⟩], R.marks⟩ := by
  unfold mR mEv; rw [if_pos hm, hk, hf, Int.toNat_natCast]
theorem mG_ok {G : GSt} {R : RSt} {size draw site : Int} {k s : Nat} (hk : Ref.cls_ R.cls size = k) (hf : Ref.first R.log R.rest R.cls k = (s : Int)) (hm : (mOut R size draw).2 = 0) :
    mG G R size draw site = GSt.withSlots ⟨G.st, G.rest, G.cs, clearTo G.mem (Cf.begin_ G.st R.cls k s).toNat (16 * Ref.gsz size).toNat⟩ k ((G.cs.getD k GCls.no).slots.set s ⟨3, (Ref.tagOf R.log k s draw : Int), 16 * Ref.gsz size, 0, site, 0⟩) := by
  unfold mG; rw [if_pos hm, hk, hf, Int.toNat_natCast]
theorem gsz_bd {size g : Int} (h1 : 1 ≤ size) (h2 : size ≤ 16 * g) (h3 : g ≤ 8) : 0 ≤ Ref.gsz size ∧ Ref.gsz size ≤ 8 := by unfold Ref.gsz; omega

theorem sim_malloc {G : GSt} {R : RSt} (h : Sim G R) (size draw site : Int) : Sim (mG G R size draw site) (mR R size draw site) := by
  rcases mOut_cases R h.rok size draw with ⟨_, hm⟩ | ⟨k, _, _, _, _, hm⟩ | ⟨k, s, h1, hk, hkl, hf, hs, hz, hm⟩
  · unfold mG mR; rw [hm]; exact h
  · unfold mG mR; rw [hm]; exact h
  · rw [mG_ok hk hf (by rw [hm]), mR_ok hk hf (by rw [hm])]
    have hg := h.ok.conf.g1 k hkl
    have hb := gsz_bd h1 hz hg
    exact h.malloc k s hkl hs _ _ site hb.1 hb.2 _ (clearTo_len _ _ _)

theorem mOut_bd {R : RSt} (ho : ROk R) (size draw : Int) : 0 ≤ (mOut R size draw).1 ∧ (mOut R size draw).1 ≤ 1152921504606846976 := by
  rcases mOut_cases R ho size draw with ⟨_, hm⟩ | ⟨k, _, _, _, _, hm⟩ | ⟨k, s, h1, hk, hkl, hf, hs, hz, hm⟩
  · rw [hm]; simp
  · rw [hm]; simp
  · rw [hm]
    have hs1 := ho.conf.s1 k hkl
    have hb := Cf.begin_bd ho.conf k hkl s (by omega) (by omega)
    have t2 := PickMath.pick_hi (Ref.last R.log k s) (Ref.last R.log k ((s : Int) - 1)) (Ref.last R.log k ((s : Int) + 1)) draw
    change Ref.tagOf R.log k s draw ≤ 14 at t2
    show 0 ≤ (Ref.tagOf R.log k s draw : Int) * 72057594037927936 + Cf.begin_ R.st R.cls k s ∧ (Ref.tagOf R.log k s draw : Int) * 72057594037927936 + Cf.begin_ R.st R.cls k s ≤ 1152921504606846976
    omega

theorem mG_foot {G : GSt} {R : RSt} (h : Sim G R) (size draw site : Int) (p : Nat) (gc : Value) (bb b : Nat) : GFoot p gc bb (mG G R size draw site) b ↔ GFoot p gc bb G b := by
  rcases mOut_cases R h.rok size draw with ⟨_, hm⟩ | ⟨k, _, _, _, _, hm⟩ | ⟨k, s, h1, hk, hkl, hf, hs, hz, hm⟩
  · unfold mG; rw [hm]; exact Iff.rfl
  · unfold mG; rw [hm]; exact Iff.rfl
  · rw [mG_ok hk hf (by rw [hm])]
    have hkl2 : k < G.cs.length := by rw [h.ok.len]; exact hkl
    exact (withSlots_foot ⟨G.st, G.rest, G.cs, clearTo G.mem (Cf.begin_ G.st R.cls k s).toNat (16 * Ref.gsz size).toNat⟩ k _ hkl2 p gc bb b).trans Iff.rfl

theorem gmalloc_all (p : Nat) (gc : Value) (bb : Nat) (G : GSt) (R : RSt) (size draw site : Int) (w : World) (h : GRep w p gc bb G) (hs : Sim G R) :
    Calls Try.prog 69 #[.pointer (some ⟨p, 0, none⟩), .int .i64 size, .int .i64 draw, .int .i64 site] w fun e w' => e = .returned (.tuple #[.int .i64 (mOut R size draw).1, .int .i64 (mOut R size draw).2]) ∧
      GRep w' p gc bb (mG G R size draw site) ∧ Kept w w' (GFoot p gc bb G) := by
  rcases mOut_cases R hs.rok size draw with ⟨hc, hm⟩ | ⟨k, h1, hk, hkl, hf, hm⟩ | ⟨k, s, h1, hk, hkl, hf, hsl, hz, hm⟩
  · refine (gmalloc_size p gc bb G R.rest R.cls size draw site w h hs.ok (if_pos hc)).mono ?_
    rintro e w' ⟨rfl, rfl⟩
    rw [hm]
    exact ⟨rfl, by unfold mG; rw [hm]; exact h, Kept.same _ _⟩
  · refine (gmalloc_full p gc bb G R.rest R.cls size draw site k w h hs.ok (by unfold gcls; rw [if_neg (by omega), hk]) hkl (by rw [hs.first hkl]; exact hf)).mono ?_
    rintro e w' ⟨rfl, rfl⟩
    rw [hm]
    exact ⟨rfl, by unfold mG; rw [hm]; exact h, Kept.same _ _⟩
  · have hkl2 : k < G.cs.length := by rw [hs.ok.len]; exact hkl
    refine (gmalloc_ok p gc bb G R.rest R.cls size draw site k s (Ref.tagOf R.log k s draw) w h hs.ok hs.mem h1 hz (by unfold gcls; rw [if_neg (by omega), hk]) hkl (by rw [hs.len hkl]; exact hsl) (by rw [hs.first hkl]; exact hf) (hs.tagOf hkl s draw)).mono ?_
    rintro e w' ⟨rfl, hG, hK⟩
    rw [hm, hs.st]
    refine ⟨rfl, by rw [mG_ok hk hf (by rw [hm])]; exact hG, hK.mono fun b _ hb => ?_⟩
    rcases hb with hb | hb
    · exact .inr (.inr (.inl hb))
    · exact .inr (.inr (.inr ⟨k, hkl2, hb⟩))

/-- what Free answers -/
def fOut (R : RSt) (q : Int) : Int := if q = 0 then 0 else (Ref.block R.st R.cls R.log q).2.2
/-- is a slot freed? -/
def fDoes (R : RSt) (q : Int) : Prop := q ≠ 0 ∧ (Ref.block R.st R.cls R.log q).2.2 = 0
theorem block_cases (st : Int) (cls : List (Int × Int)) (log : List Ref.Ev) (q : Int) : (Ref.block st cls log q).2.2 ≠ 0 ∨ ∃ k s : Nat, Ref.block st cls log q = ((k : Int), (s : Int), 0) ∧ k < cls.length ∧ s < (Cf.sl cls k).toNat ∧ Ref.state log k s = 3 := by
  unfold Ref.block
  cases ht : Ref.tameB q
  · left; simp
  · rw [if_pos rfl]
    generalize q % Ref.U = a
    generalize q / Ref.U = t
    have aux : ∀ f k, k + f ≤ cls.length → (Ref.blockFrom st cls log a t f k).2.2 ≠ 0 ∨ ∃ k' s : Nat, Ref.blockFrom st cls log a t f k = ((k' : Int), (s : Int), 0) ∧ k' < cls.length ∧ s < (Cf.sl cls k').toNat ∧ Ref.state log k' s = 3 := by
      intro f
      induction f with
      | zero => intro k _; left; simp [Ref.blockFrom]
      | succ f ih =>
        intro k hk
        simp only [Ref.blockFrom]
        by_cases h0 : 0 ≤ Ref.blockIn st cls log a t k
        · rw [if_pos h0]
          obtain ⟨s, hs⟩ := Int.eq_ofNat_of_zero_le h0
          have hm := Ref.firstFrom_at _ _ _ h0
          have hhi := Ref.firstFrom_hi (Ref.matchB st cls log a t k) (Cf.sl cls k).toNat 0
          change 0 ≤ Ref.blockIn st cls log a t k ∧ Ref.matchB st cls log a t k (Ref.blockIn st cls log a t k).toNat = true at hm
          change Ref.blockIn st cls log a t k < _ at hhi
          rw [hs] at hm hhi ⊢
          rw [Int.toNat_natCast] at hm
          by_cases h4 : Ref.state log k s = 4
          · rw [if_pos h4]; left; simp
          · rw [if_neg h4]
            right
            refine ⟨k, s, rfl, by omega, by omega, ?_⟩
            have h2 := ((match_iff _ _ _ _ _ _ _).1 hm.2).2.2
            unfold Ref.state at h2 h4 ⊢
            split
            · rename_i hh; rw [if_pos hh] at h2; exact absurd rfl h2
            · rename_i hh
              rw [if_neg hh] at h4
              split
              · rfl
              · rename_i hh2; rw [if_neg hh2] at h4; exact absurd rfl h4
        · rw [if_neg h0]; exact ih (k + 1) (by omega)
    exact aux cls.length 0 (by omega)

theorem gfree_all (p : Nat) (gc : Value) (bb : Nat) (G : GSt) (R : RSt) (q site : Int) (w : World) (h : GRep w p gc bb G) (hs : Sim G R) (q1 : q ≤ 9223372036854775807) :
    Calls Try.prog 70 #[.pointer (some ⟨p, 0, none⟩), .int .i64 q, .int .i64 site] w fun e w' => e = .returned (.int .i64 (fOut R q)) ∧ Kept w w' (GFoot p gc bb G) ∧
      ((¬ fDoes R q ∧ GRep w' p gc bb G) ∨ ∃ k s : Nat, fDoes R q ∧ Ref.block R.st R.cls R.log q = ((k : Int), (s : Int), 0) ∧ k < R.cls.length ∧ s < (Cf.sl R.cls k).toNat ∧ Ref.state R.log k s = 3 ∧ GRep w' p gc bb (G.withSlots k (freed (G.cs.getD k GCls.no).slots s G.rest site))) := by
  by_cases hq : q = 0
  · subst hq
    refine (gfree_none p site w).mono ?_
    rintro e w' ⟨rfl, rfl⟩
    exact ⟨rfl, Kept.same _ _, .inl ⟨fun x => x.1 rfl, h⟩⟩
  · have hfo : fOut R q = (Ref.block R.st R.cls R.log q).2.2 := if_neg hq
    rcases block_cases R.st R.cls R.log q with he | ⟨k, s, he, hk, hsl, h3⟩
    · refine (gfree_err p gc bb G R.rest R.cls q site w h hs.ok q1 hq (by rw [hs.block]; exact he)).mono ?_
      rintro e w' ⟨rfl, hb⟩
      rw [hs.block, hfo]
      exact ⟨rfl, Kept.of_below hb _, .inl ⟨fun x => he x.2, h.below hb⟩⟩
    · have hkl2 : k < G.cs.length := by rw [hs.ok.len]; exact hk
      refine (gfree_ok p gc bb G R.rest R.cls q site k s w h hs.ok q1 hq (by rw [hs.block]; exact he) hk (by rw [hs.len hk]; exact hsl) (fun j hj => hs.rest_le hk j hj)).mono ?_
      rintro e w' ⟨rfl, hG, hK⟩
      rw [hfo, he]
      exact ⟨rfl, hK.mono fun b _ hb => .inr (.inr (.inr ⟨k, hkl2, hb⟩)), .inr ⟨k, s, ⟨hq, by rw [he]⟩, rfl, hk, hsl, h3, hG⟩⟩

end Go.Proofs.Ytjikemhmnkckcab
/- The document's bytes: Byte and mark. -/
namespace Go.Proofs.Ytjikemhmnkckcab
open Go.RowKit

def mkNo : Int × Int × Int := (0, 0, 0)
namespace Ref
def byteTo (marks : List (Int × Int × Int)) (addr since : Int) : Nat → Int
  | 0 => 0
  | n + 1 => if (marks.getD n mkNo).1 = addr ∧ since ≤ (marks.getD n mkNo).2.2 then (marks.getD n mkNo).2.1 else byteTo marks addr since n
/-- behind which event a mark at this address counts -/
def sinceAt (st : Int) (cls : List (Int × Int)) (log : List Ev) (addr : Int) : Int :=
  if (Cf.slot st cls addr).1 < 0 then 0 else given log (Cf.slot st cls addr).1 (Cf.slot st cls addr).2 + 1
end Ref
def RSt.byte (R : RSt) (addr : Int) : Int := Ref.byteTo R.marks addr (Ref.sinceAt R.st R.cls R.log addr) R.marks.length
def RSt.mark (R : RSt) (addr b : Int) : RSt := ⟨R.st, R.rest, R.cls, R.log, R.marks ++ [(addr, b, (R.log.length : Int))]⟩

theorem mk_cells {w : World} {g : Nat} {marks : List (Int × Int × Int)} (hc : ∀ j u, (marks.flatMap mkCells)[j]? = some u → w.cell? ⟨g, j, none⟩ = some u) (i : Nat) (hi : i < marks.length) :
    w.cell? ⟨g, i * 3, none⟩ = some (.int .i64 (marks.getD i mkNo).1) ∧ w.cell? ⟨g, i * 3 + 1, none⟩ = some (.int .i64 (marks.getD i mkNo).2.1) ∧ w.cell? ⟨g, i * 3 + 2, none⟩ = some (.int .i64 (marks.getD i mkNo).2.2) := by
  have h6 : ∀ j, j < 3 → (marks.flatMap mkCells)[i * 3 + j]? = (mkCells (marks.getD i mkNo))[j]? := fun j hj => by
    rw [flat_get mkCells 3 (fun _ => rfl) marks i j hj, List.getElem?_eq_getElem hi]
    simp [List.getD_eq_getElem?_getD, List.getElem?_eq_getElem hi]
  have hx := fun j (hj : j < 3) u hu => hc (i * 3 + j) u (by rw [h6 j hj]; exact hu)
  exact ⟨hx 0 (by omega) _ rfl, hx 1 (by omega) _ rfl, hx 2 (by omega) _ rfl⟩

end Go.Proofs.Ytjikemhmnkckcab
namespace Go.Proofs.Ytjikemhmnkckcab
open Go.RowKit

end Go.Proofs.Ytjikemhmnkckcab
/- The document's access: shape, Access, Usable. -/
namespace Go.Proofs.Ytjikemhmnkckcab
open Go.RowKit

namespace Ref
def shapeB (n : Int) : Bool := n == 1 || n == 2 || n == 4 || n == 8
/-- one byte after the other: the error, the address -/
def accFrom (tag : Int → Int) (t a : Int) : Nat → Nat → Int × Int
  | 0, _ => (0, 0)
  | f + 1, i => if tag (a + i) = -1 then (6, a + i) else if tag (a + i) = 15 ∨ tag (a + i) ≠ t then (7, a + i) else accFrom tag t a f (i + 1)
end Ref
def RSt.tag (R : RSt) (addr : Int) : Int := Cf.tag R.st R.cls R.log addr
def RSt.access (R : RSt) (q n : Int) : Int × Int :=
  if n < 0 ∨ 65536 < n then (2, 0) else if n = 0 then (0, 0) else if Ref.tameB q then Ref.accFrom R.tag (q / 72057594037927936) (q % 72057594037927936) n.toNat 0 else (5, 0)

theorem shape_of {n : Int} (h : Ref.shapeB n = true) : n = 1 ∨ n = 2 ∨ n = 4 ∨ n = 8 := by simpa [Ref.shapeB, or_assoc] using h
theorem shape_no {n : Int} (h1 : n ≠ 1) (h2 : n ≠ 2) (h4 : n ≠ 4) (h8 : n ≠ 8) : Ref.shapeB n = false := by simp [Ref.shapeB, *]

end Go.Proofs.Ytjikemhmnkckcab
