import Derived.Test.YtjikemhmnkckcaaJ18
import Derived.Test.YtjikemhmnkckcaaJ6
/- Malloc and Free of both heaps, each by one contract. -/
namespace Go.Proofs.Ytjikemhmnkckcaa
open Go.RowKit

/-- what Malloc answers: the pointer, the error -/
def mOut (R : RSt) (size draw : Int) : Int × Int :=
  if size < 1 ∨ Ref.cls_ R.cls size = R.cls.length then (0, 3)
  else if Ref.first R.log R.rest R.cls (Ref.cls_ R.cls size) < 0 then (0, 4)
  else ((Ref.tagOf R.log (Ref.cls_ R.cls size) (Ref.first R.log R.rest R.cls (Ref.cls_ R.cls size)).toNat draw : Int) * 72057594037927936 + Cf.begin_ R.st R.cls (Ref.cls_ R.cls size) ((Ref.first R.log R.rest R.cls (Ref.cls_ R.cls size)).toNat : Int), 0)
def mEv (R : RSt) (size draw site : Int) : Ref.Ev :=
  ⟨false, (Ref.cls_ R.cls size : Int), ((Ref.first R.log R.rest R.cls (Ref.cls_ R.cls size)).toNat : Int), (Ref.tagOf R.log (Ref.cls_ R.cls size) (Ref.first R.log R.rest R.cls (Ref.cls_ R.cls size)).toNat draw : Int), Ref.gsz size, site⟩
def mR (R : RSt) (size draw site : Int) : RSt := if (mOut R size draw).2 = 0 then ⟨R.st, R.rest, R.cls, R.log ++ [mEv R size draw site], R.marks⟩ else R
def mG (G : GSt) (R : RSt) (size draw site : Int) : GSt :=
  if (mOut R size draw).2 = 0 then
    GSt.withSlots ⟨G.st, G.rest, G.cs, clearTo G.mem (Cf.begin_ G.st R.cls (Ref.cls_ R.cls size) ((Ref.first R.log R.rest R.cls (Ref.cls_ R.cls size)).toNat : Int)).toNat (16 * Ref.gsz size).toNat⟩ (Ref.cls_ R.cls size)
      ((G.cs.getD (Ref.cls_ R.cls size) GCls.no).slots.set (Ref.first R.log R.rest R.cls (Ref.cls_ R.cls size)).toNat ⟨3, (Ref.tagOf R.log (Ref.cls_ R.cls size) (Ref.first R.log R.rest R.cls (Ref.cls_ R.cls size)).toNat draw : Int), 16 * Ref.gsz size, 0, site, 0⟩)
  else G

/-- the three cases -/
theorem mOut_cases (R : RSt) (_ho : ROk R) (size draw : Int) :
    ((size < 1 ∨ Ref.cls_ R.cls size = R.cls.length) ∧ mOut R size draw = (0, 3)) ∨
    (∃ k, 1 ≤ size ∧ Ref.cls_ R.cls size = k ∧ k < R.cls.length ∧ Ref.first R.log R.rest R.cls k < 0 ∧ mOut R size draw = (0, 4)) ∨
    (∃ k s : Nat, 1 ≤ size ∧ Ref.cls_ R.cls size = k ∧ k < R.cls.length ∧ Ref.first R.log R.rest R.cls k = (s : Int) ∧ s < (Cf.sl R.cls k).toNat ∧ size ≤ 16 * Cf.gr R.cls k ∧
      mOut R size draw = ((Ref.tagOf R.log k s draw : Int) * 72057594037927936 + Cf.begin_ R.st R.cls k s, 0)) := by
  unfold mOut
  by_cases h : size < 1 ∨ Ref.cls_ R.cls size = R.cls.length
  · exact .inl ⟨h, if_pos h⟩
  · rw [if_neg h]
    have hle := Ref.cls_le R.cls size
    right
    by_cases h2 : Ref.first R.log R.rest R.cls (Ref.cls_ R.cls size) < 0
    · exact .inl ⟨_, by omega, rfl, by omega, h2, if_pos h2⟩
    · right
      obtain ⟨s, hs⟩ := Int.eq_ofNat_of_zero_le (show 0 ≤ Ref.first R.log R.rest R.cls (Ref.cls_ R.cls size) by omega)
      refine ⟨Ref.cls_ R.cls size, s, by omega, rfl, by omega, hs, ?_, Ref.cls_at R.cls size (by omega), ?_⟩
      · have := Ref.firstFrom_hi (Ref.openB R.log R.rest (Ref.cls_ R.cls size)) (Cf.sl R.cls (Ref.cls_ R.cls size)).toNat 0
        unfold Ref.first at hs; omega
      · rw [if_neg h2, hs, Int.toNat_natCast]

theorem mR_ok {R : RSt} {size draw site : Int} {k s : Nat} (hk : Ref.cls_ R.cls size = k) (hf : Ref.first R.log R.rest R.cls k = (s : Int)) (hm : (mOut R size draw).2 = 0) :
    mR R size draw site = ⟨R.st, R.rest, R.cls, R.log ++ [⟨false, k, s, Ref.tagOf R.log k s draw, Ref.gsz size, site⟩], R.marks⟩ := by
  unfold mR mEv; rw [if_pos hm, hk, hf, Int.toNat_natCast]
theorem mG_ok {G : GSt} {R : RSt} {size draw site : Int} {k s : Nat} (hk : Ref.cls_ R.cls size = k) (hf : Ref.first R.log R.rest R.cls k = (s : Int)) (hm : (mOut R size draw).2 = 0) :
    mG G R size draw site = GSt.withSlots ⟨G.st, G.rest, G.cs, clearTo G.mem (Cf.begin_ G.st R.cls k s).toNat (16 * Ref.gsz size).toNat⟩ k ((G.cs.getD k GCls.no).slots.set s ⟨3, (Ref.tagOf R.log k s draw : Int), 16 * Ref.gsz size, 0, site, 0⟩) := by
  unfold mG; rw [if_pos hm, hk, hf, Int.toNat_natCast]
theorem gsz_bd {size g : Int} (h1 : 1 ≤ size) (h2 : size ≤ 16 * g) (h3 : g ≤ 8) : 0 ≤ Ref.gsz size ∧ Ref.gsz size ≤ 8 := by unfold Ref.gsz; omega

theorem sim_malloc {G : GSt} {R : RSt} (h : Sim G R) (size draw site : Int) : Sim (mG G R size draw site) (mR R size draw site) := by
  rcases mOut_cases R h.rok size draw with ⟨_, hm⟩ | ⟨k, _, _, _, _, hm⟩ | ⟨k, s, h1, hk, hkl, hf, hs, hz, hm⟩
  · unfold mG mR; rw [hm]; exact h
  · unfold mG mR; rw [hm]; exact h
  · rw [mG_ok hk hf (by rw [hm]), mR_ok hk hf (by rw [hm])]
    have hg := h.ok.conf.g1 k hkl
    have hb := gsz_bd h1 hz hg
    exact h.malloc k s hkl hs _ _ site hb.1 hb.2 _ (clearTo_len _ _ _)

theorem mOut_bd {R : RSt} (ho : ROk R) (size draw : Int) : 0 ≤ (mOut R size draw).1 ∧ (mOut R size draw).1 ≤ 1152921504606846976 := by
  rcases mOut_cases R ho size draw with ⟨_, hm⟩ | ⟨k, _, _, _, _, hm⟩ | ⟨k, s, h1, hk, hkl, hf, hs, hz, hm⟩
  · rw [hm]; simp
  · rw [hm]; simp
  · rw [hm]
    have hs1 := ho.conf.s1 k hkl
    have hb := Cf.begin_bd ho.conf k hkl s (by omega) (by omega)
    have t2 := PickMath.pick_hi (Ref.last R.log k s) (Ref.last R.log k ((s : Int) - 1)) (Ref.last R.log k ((s : Int) + 1)) draw
    change Ref.tagOf R.log k s draw ≤ 14 at t2
    show 0 ≤ (Ref.tagOf R.log k s draw : Int) * 72057594037927936 + Cf.begin_ R.st R.cls k s ∧ (Ref.tagOf R.log k s draw : Int) * 72057594037927936 + Cf.begin_ R.st R.cls k s ≤ 1152921504606846976
    omega

theorem mG_foot {G : GSt} {R : RSt} (h : Sim G R) (size draw site : Int) (p : Nat) (gc : Value) (bb b : Nat) : GFoot p gc bb (mG G R size draw site) b ↔ GFoot p gc bb G b := by
  rcases mOut_cases R h.rok size draw with ⟨_, hm⟩ | ⟨k, _, _, _, _, hm⟩ | ⟨k, s, h1, hk, hkl, hf, hs, hz, hm⟩
  · unfold mG; rw [hm]; exact Iff.rfl
  · unfold mG; rw [hm]; exact Iff.rfl
  · rw [mG_ok hk hf (by rw [hm])]
    have hkl2 : k < G.cs.length := by rw [h.ok.len]; exact hkl
    exact (withSlots_foot ⟨G.st, G.rest, G.cs, clearTo G.mem (Cf.begin_ G.st R.cls k s).toNat (16 * Ref.gsz size).toNat⟩ k _ hkl2 p gc bb b).trans Iff.rfl

theorem gmalloc_all (p : Nat) (gc : Value) (bb : Nat) (G : GSt) (R : RSt) (size draw site : Int) (w : World) (h : GRep w p gc bb G) (hs : Sim G R) :
    Calls Try.prog 29 #[.pointer (some ⟨p, 0, none⟩), .int .i64 size, .int .i64 draw, .int .i64 site] w fun e w' => e = .returned (.tuple #[.int .i64 (mOut R size draw).1, .int .i64 (mOut R size draw).2]) ∧
      GRep w' p gc bb (mG G R size draw site) ∧ Kept w w' (GFoot p gc bb G) := by
  rcases mOut_cases R hs.rok size draw with ⟨hc, hm⟩ | ⟨k, h1, hk, hkl, hf, hm⟩ | ⟨k, s, h1, hk, hkl, hf, hsl, hz, hm⟩
  · refine (gmalloc_size p gc bb G R.rest R.cls size draw site w h hs.ok (if_pos hc)).mono ?_
    rintro e w' ⟨rfl, rfl⟩
    rw [hm]
    exact ⟨rfl, by unfold mG; rw [hm]; exact h, Kept.same _ _⟩
  · refine (gmalloc_full p gc bb G R.rest R.cls size draw site k w h hs.ok (by unfold gcls; rw [if_neg (by omega), hk]) hkl (by rw [hs.first hkl]; exact hf)).mono ?_
    rintro e w' ⟨rfl, rfl⟩
    rw [hm]
    exact ⟨rfl, by unfold mG; rw [hm]; exact h, Kept.same _ _⟩
  · have hkl2 : k < G.cs.length := by rw [hs.ok.len]; exact hkl
    refine (gmalloc_ok p gc bb G R.rest R.cls size draw site k s (Ref.tagOf R.log k s draw) w h hs.ok hs.mem h1 hz (by unfold gcls; rw [if_neg (by omega), hk]) hkl (by rw [hs.len hkl]; exact hsl) (by rw [hs.first hkl]; exact hf) (hs.tagOf hkl s draw)).mono ?_
    rintro e w' ⟨rfl, hG, hK⟩
    rw [hm, hs.st]
    refine ⟨rfl, by rw [mG_ok hk hf (by rw [hm])]; exact hG, hK.mono fun b _ hb => ?_⟩
    rcases hb with hb | hb
    · exact .inr (.inr (.inl hb))
    · exact .inr (.inr (.inr ⟨k, hkl2, hb⟩))

theorem rmalloc_all (p : Nat) (vc vl vm : Value) (R : RSt) (size draw site : Int) (w : World) (h : RRep w p vc vl vm R) (ho : ROk R) (hroom : (R.log.length + 1) * 48 ≤ 140737488355328) :
    Calls Try.prog 105 #[.pointer (some ⟨p, 0, none⟩), .int .i64 size, .int .i64 draw, .int .i64 site] w fun e w' => ∃ vl', e = .returned (.tuple #[.int .i64 (mOut R size draw).1, .int .i64 (mOut R size draw).2]) ∧
      RRep w' p vc vl' vm (mR R size draw site) ∧ Kept w w' (RFoot p vc vl vm) ∧ NewBlk vl vl' w := by
  rcases mOut_cases R ho size draw with ⟨hc, hm⟩ | ⟨k, h1, hk, hkl, hf, hm⟩ | ⟨k, s, h1, hk, hkl, hf, hsl, hz, hm⟩
  · refine (rmalloc_size p vc vl vm R size draw site w h ho hc).mono ?_
    rintro e w' ⟨rfl, rfl⟩
    rw [hm]
    exact ⟨vl, rfl, by unfold mR; rw [hm]; exact h, Kept.same _ _, fun g hg => .inl hg⟩
  · refine (rmalloc_full p vc vl vm R size draw site k w h ho h1 hk hkl hf).mono ?_
    rintro e w' ⟨rfl, hb⟩
    rw [hm]
    exact ⟨vl, rfl, by unfold mR; rw [hm]; exact h.below hb, Kept.of_below hb _, fun g hg => .inl hg⟩
  · refine (rmalloc_ok p vc vl vm R size draw site k s w h ho h1 hk hkl hf (by omega) hroom).mono ?_
    rintro e w' ⟨vl', rfl, hR, hK, hN⟩
    rw [hm]
    refine ⟨vl', rfl, by rw [mR_ok hk hf (by rw [hm])]; exact hR, hK.mono fun b _ hb => ?_, hN⟩
    rcases hb with hb | hb
    · exact .inl hb
    · exact .inr (.inr (.inl hb))

/-- what Free answers -/
def fOut (R : RSt) (q : Int) : Int := if q = 0 then 0 else (Ref.block R.st R.cls R.log q).2.2
/-- is a slot freed? -/
def fDoes (R : RSt) (q : Int) : Prop := q ≠ 0 ∧ (Ref.block R.st R.cls R.log q).2.2 = 0
theorem block_cases (st : Int) (cls : List (Int × Int)) (log : List Ref.Ev) (q : Int) : (Ref.block st cls log q).2.2 ≠ 0 ∨ ∃ k s : Nat, Ref.block st cls log q = ((k : Int), (s : Int), 0) ∧ k < cls.length ∧ s < (Cf.sl cls k).toNat ∧ Ref.state log k s = 3 := by
  unfold Ref.block
  cases ht : Ref.tameB q
  · left; simp
  · rw [if_pos rfl]
    generalize q % Ref.U = a
    generalize q / Ref.U = t
    have aux : ∀ f k, k + f ≤ cls.length → (Ref.blockFrom st cls log a t f k).2.2 ≠ 0 ∨ ∃ k' s : Nat, Ref.blockFrom st cls log a t f k = ((k' : Int), (s : Int), 0) ∧ k' < cls.length ∧ s < (Cf.sl cls k').toNat ∧ Ref.state log k' s = 3 := by
      intro f
      induction f with
      | zero => intro k _; left; simp [Ref.blockFrom]
      | succ f ih =>
        intro k hk
        simp only [Ref.blockFrom]
        by_cases h0 : 0 ≤ Ref.blockIn st cls log a t k
        · rw [if_pos h0]
          obtain ⟨s, hs⟩ := Int.eq_ofNat_of_zero_le h0
          have hm := Ref.firstFrom_at _ _ _ h0
          have hhi := Ref.firstFrom_hi (Ref.matchB st cls log a t k) (Cf.sl cls k).toNat 0
          change 0 ≤ Ref.blockIn st cls log a t k ∧ Ref.matchB st cls log a t k (Ref.blockIn st cls log a t k).toNat = true at hm
          change Ref.blockIn st cls log a t k < _ at hhi
          rw [hs] at hm hhi ⊢
          rw [Int.toNat_natCast] at hm
          by_cases h4 : Ref.state log k s = 4
          · rw [if_pos h4]; left; simp
          · rw [if_neg h4]
            right
            refine ⟨k, s, rfl, by omega, by omega, ?_⟩
            have h2 := ((match_iff _ _ _ _ _ _ _).1 hm.2).2.2
            unfold Ref.state at h2 h4 ⊢
            split
            · rename_i hh; rw [if_pos hh] at h2; exact absurd rfl h2
            · rename_i hh
              rw [if_neg hh] at h4
              split
              · rfl
              · rename_i hh2; rw [if_neg hh2] at h4; exact absurd rfl h4
        · rw [if_neg h0]; exact ih (k + 1) (by omega)
    exact aux cls.length 0 (by omega)

theorem gfree_all (p : Nat) (gc : Value) (bb : Nat) (G : GSt) (R : RSt) (q site : Int) (w : World) (h : GRep w p gc bb G) (hs : Sim G R) (q1 : q ≤ 9223372036854775807) :
    Calls Try.prog 94 #[.pointer (some ⟨p, 0, none⟩), .int .i64 q, .int .i64 site] w fun e w' => e = .returned (.int .i64 (fOut R q)) ∧ Kept w w' (GFoot p gc bb G) ∧
      ((¬ fDoes R q ∧ GRep w' p gc bb G) ∨ ∃ k s : Nat, fDoes R q ∧ Ref.block R.st R.cls R.log q = ((k : Int), (s : Int), 0) ∧ k < R.cls.length ∧ s < (Cf.sl R.cls k).toNat ∧ Ref.state R.log k s = 3 ∧ GRep w' p gc bb (G.withSlots k (freed (G.cs.getD k GCls.no).slots s G.rest site))) := by
  by_cases hq : q = 0
  · subst hq
    refine (gfree_none p site w).mono ?_
    rintro e w' ⟨rfl, rfl⟩
    exact ⟨rfl, Kept.same _ _, .inl ⟨fun x => x.1 rfl, h⟩⟩
  · have hfo : fOut R q = (Ref.block R.st R.cls R.log q).2.2 := if_neg hq
    rcases block_cases R.st R.cls R.log q with he | ⟨k, s, he, hk, hsl, h3⟩
    · refine (gfree_err p gc bb G R.rest R.cls q site w h hs.ok q1 hq (by rw [hs.block]; exact he)).mono ?_
      rintro e w' ⟨rfl, hb⟩
      rw [hs.block, hfo]
      exact ⟨rfl, Kept.of_below hb _, .inl ⟨fun x => he x.2, h.below hb⟩⟩
    · have hkl2 : k < G.cs.length := by rw [hs.ok.len]; exact hk
      refine (gfree_ok p gc bb G R.rest R.cls q site k s w h hs.ok q1 hq (by rw [hs.block]; exact he) hk (by rw [hs.len hk]; exact hsl) (fun j hj => hs.rest_le hk j hj)).mono ?_
      rintro e w' ⟨rfl, hG, hK⟩
      rw [hfo, he]
      exact ⟨rfl, hK.mono fun b _ hb => .inr (.inr (.inr ⟨k, hkl2, hb⟩)), .inr ⟨k, s, ⟨hq, by rw [he]⟩, rfl, hk, hsl, h3, hG⟩⟩

theorem rfree_all (p : Nat) (vc vl vm : Value) (R : RSt) (q site : Int) (w : World) (h : RRep w p vc vl vm R) (ho : ROk R) (q1 : q ≤ 9223372036854775807) (hroom : (R.log.length + 1) * 48 ≤ 140737488355328) :
    Calls Try.prog 107 #[.pointer (some ⟨p, 0, none⟩), .int .i64 q, .int .i64 site] w fun e w' => ∃ vl', e = .returned (.int .i64 (fOut R q)) ∧ Kept w w' (RFoot p vc vl vm) ∧ NewBlk vl vl' w ∧
      ((¬ fDoes R q ∧ RRep w' p vc vl' vm R) ∨ ∃ k s : Nat, fDoes R q ∧ Ref.block R.st R.cls R.log q = ((k : Int), (s : Int), 0) ∧ RRep w' p vc vl' vm ⟨R.st, R.rest, R.cls, R.log ++ [⟨true, k, s, 0, 0, site⟩], R.marks⟩) := by
  by_cases hq : q = 0
  · subst hq
    refine (rfree_none p site w).mono ?_
    rintro e w' ⟨rfl, rfl⟩
    exact ⟨vl, rfl, Kept.same _ _, fun g hg => .inl hg, .inl ⟨fun x => x.1 rfl, h⟩⟩
  · have hfo : fOut R q = (Ref.block R.st R.cls R.log q).2.2 := if_neg hq
    rcases block_cases R.st R.cls R.log q with he | ⟨k, s, he, hk, hsl, h3⟩
    · refine (rfree_err p vc vl vm R q site w h ho q1 hq he).mono ?_
      rintro e w' ⟨rfl, hb⟩
      rw [hfo]
      exact ⟨vl, rfl, Kept.of_below hb _, fun g hg => .inl hg, .inl ⟨fun x => he x.2, h.below hb⟩⟩
    · refine (rfree_ok p vc vl vm R q site k s w h ho q1 hq he hroom).mono ?_
      rintro e w' ⟨vl', rfl, hR, hK, hN⟩
      rw [hfo, he]
      refine ⟨vl', rfl, hK.mono fun b _ hb => ?_, hN, .inr ⟨k, s, ⟨hq, by rw [he]⟩, rfl, hR⟩⟩
      rcases hb with hb | hb
      · exact .inl hb
      · exact .inr (.inr (.inl hb))
end Go.Proofs.Ytjikemhmnkckcaa
namespace Go.Proofs.Ytjikemhmnkckcaa
open Go.RowKit
attribute [local go_sem ↓] Go.wp_at_zero Go.wp_at_succ

set_option maxRecDepth 100000 in
set_option maxHeartbeats 1600000 in
theorem same_any (st rest : Int) (a b : Option Addr) (cap capb : Nat) (cls : List (Int × Int)) (w : World) (ha : CRow w a cap cls) (hb : CRow w b capb cls) :
    Calls Try.prog 78 #[.agg #[.int .i64 st, .int .i64 rest, .slice a cls.length cap], .agg #[.int .i64 st, .int .i64 rest, .slice b cls.length capb]] w fun e w' => e = .returned (.bool true) ∧ Below w.heap.size w w' := by
  have l1 := ha.len
  have l2 := ha.cap
  unfold maxLen at l2
  have l3 := hb.len
  have l4 := hb.cap
  unfold maxLen at l4
  have HA : Hid (CCells w a cls) := ha.cells
  have HB : Hid (CCells w b cls) := hb.cells
  have e1 : (st != st) = false := by simp
  have e2 : (rest != rest) = false := by simp
  have e3 : (((cls.length : Nat) : Int) != ((cls.length : Nat) : Int)) = false := by simp
  clear ha hb
  go_enter Try.func78, Try.ntmps78
  go_wp2
  go_loopw [5] (fun i wr => ∃ m : Nat, m ≤ cls.length ∧ i = .int .i64 (m : Int) ∧ Below w.heap.size w wr ∧ CBox wr w.heap.size st rest a cls.length cap ∧ CBox wr (w.heap.size + 1) st rest b cls.length capb) (fun i _ => cls.length - (intOf i).toNat)
  case atStart =>
    refine ⟨0, by omega, rfl, ((Below.refl _ _).alloc (Nat.le_refl _) _).alloc (by simp) _, (CBox.alloc _ _ _ _ _ _ _).below ((Below.refl _ _).alloc (Nat.le_refl _) _) (by simp), ?_⟩
    have := CBox.alloc (w.alloc (.cells #[.int .i64 st, .int .i64 rest, .slice a cls.length cap] 24)) st rest b cls.length capb 24
    simpa using this
  case round =>
    obtain ⟨m, hm, rfl, hb, ca, cb⟩ := hrel
    have c2 := ca.c2
    have d2 := cb.c2
    by_cases hlt : m < cls.length
    · obtain ⟨g, off, rfl, hgl, hcell⟩ := HA.out (by omega)
      obtain ⟨g', off', rfl, hgl', hcell'⟩ := HB.out (by omega)
      have x0 := (hb.cell (p := ⟨g, off + m * 2, none⟩) hgl).trans (hcell m hlt).1
      have x1 := (hb.cell (p := ⟨g, off + m * 2 + 1, none⟩) hgl).trans (hcell m hlt).2
      have y0 := (hb.cell (p := ⟨g', off' + m * 2, none⟩) hgl').trans (hcell' m hlt).1
      have y1 := (hb.cell (p := ⟨g', off' + m * 2 + 1, none⟩) hgl').trans (hcell' m hlt).2
      have i0 : (0 : Int) ≤ (m : Int) := by omega
      have i1 : (m : Int) < (cls.length : Int) := by omega
      generalize Cf.gr cls m = x at *
      generalize Cf.sl cls m = y at *
      clear hcell hcell' HA HB
      go_wp2
      go_quiet (fail)
      go_wp2
      go_roundw
      case rel => exact ⟨m + 1, by omega, by go_num, below_drewN hb _, ca.below (below_drewN (Below.refl wr.heap.size _) _) ca.lt, cb.below (below_drewN (Below.refl wr.heap.size _) _) cb.lt⟩
      case measure => simp [intOf]; omega
    · go_wp2
      go_ret
      exact ⟨rfl, hb⟩

/-- the owner's list, as far as it can be written -/
structure Own (w : World) (L n : Nat) (wr : World) : Prop where
  kept : Kept w wr (· = L)
  blk : ∃ xs, Blk wr L 67 xs ∧ xs.length = n

theorem Kept.refl (w : World) (S : Nat → Prop) : Kept w w S := ⟨rfl, rfl, rfl, Nat.le_refl _, fun _ _ _ => rfl⟩
theorem Kept.setCell {w wr : World} {S : Nat → Prop} (h : Kept w wr S) (a : Addr) (v : Value) (ha : S a.block) : Kept w (wr.setCell a v) S :=
  ⟨h.os, h.tape, h.output, by rw [World.size_setCell]; exact h.size, fun k hk hs => (Below.heap_setCell wr a v k (fun e => hs (e ▸ ha))).trans (h.block k hk hs)⟩
theorem Own.setCell {w wr : World} {L n : Nat} (h : Own w L n wr) (j : Nat) (v : Value) : Own w L n (wr.setCell ⟨L, j, none⟩ v) := by
  obtain ⟨xs, hx, hn⟩ := h.blk
  exact ⟨h.kept.setCell _ _ rfl, _, hx.setCell j v, by rw [List.length_set]; exact hn⟩
theorem Own.cell {w wr : World} {L n : Nat} (h : Own w L n wr) (j : Nat) (hj : j < n) : ∃ v, wr.cell? ⟨L, j, none⟩ = some v := by
  obtain ⟨xs, hx, hn⟩ := h.blk
  exact ⟨xs[j], hx.cell (List.getElem?_eq_getElem (by omega))⟩
theorem Own.frozen {w wr : World} {L n : Nat} (h : Own w L n wr) (j : Nat) : wr.frozen? ⟨L, j, none⟩ = false := by
  obtain ⟨xs, hx, hn⟩ := h.blk
  exact hx.frozen j

theorem crow_own {w : World} {L : Nat} {cls : List (Int × Int)} {tl : List Value} (h : Blk w L 67 (cls.flatMap clsCells ++ tl)) (hcap : cls.length + 2 ≤ maxLen) : CRow w (some ⟨L, 0, none⟩) (cls.length + 2) cls := by
  refine ⟨by omega, hcap, fun _ => ⟨L, 0, rfl, h.lt, fun i hi => ?_⟩⟩
  have hfl := flat_len clsCells 2 (fun _ => rfl) cls
  have hc : ∀ j u, (cls.flatMap clsCells)[j]? = some u → w.cell? ⟨L, j, none⟩ = some u := fun j u hu => h.cell (by
    rw [List.getElem?_append_left]
    · exact hu
    · rcases Nat.lt_or_ge j (cls.flatMap clsCells).length with h | h
      · exact h
      · rw [List.getElem?_eq_none h] at hu; cases hu)
  have := cls_cells hc i hi
  simp only [Nat.zero_add]
  exact this

set_option maxRecDepth 100000 in
set_option maxHeartbeats 1600000 in
theorem still_any (st rest : Int) (b : Option Addr) (capb L : Nat) (cls : List (Int × Int)) (w : World) (hL : Blk w L 67 (cls.flatMap clsCells ++ room4)) (hb : CRow w b capb cls) (hreach : cls.length * 16 ≤ 140737488351232) :
    Calls Try.prog 39 #[.agg #[.int .i64 st, .int .i64 rest, .slice (some ⟨L, 0, none⟩) cls.length (cls.length + 2)], .agg #[.int .i64 st, .int .i64 rest, .slice b cls.length capb]] w fun e w' => e = .returned (.bool true) ∧ Kept w w' (· = L) := by
  have hfl := flat_len clsCells 2 (fun _ => rfl) cls
  have hLl := hL.lt
  have hca : CRow w (some ⟨L, 0, none⟩) (cls.length + 2) cls := crow_own hL (by simp [maxLen]; omega)
  have HA : Hid (CRow w (some ⟨L, 0, none⟩) (cls.length + 2) cls) := hca
  have HB : Hid (CRow w b capb cls) := hb
  have HL : Hid (Blk w L 67 (cls.flatMap clsCells ++ room4)) := hL
  have n0 := hL.cell (j := cls.length * 2) (v := .int .i64 77) (by rw [List.getElem?_append_right (by omega)]; simp [hfl, room4])
  have n1 := hL.cell (j := cls.length * 2 + 1) (v := .int .i64 77) (by rw [List.getElem?_append_right (by omega)]; simp [hfl, room4])
  have n2 := hL.cell (j := (cls.length + 1) * 2) (v := .int .i64 77) (by rw [List.getElem?_append_right (by omega), hfl, show (cls.length + 1) * 2 - cls.length * 2 = 2 by omega]; rfl)
  have n3 := hL.cell (j := (cls.length + 1) * 2 + 1) (v := .int .i64 77) (by rw [List.getElem?_append_right (by omega), hfl, show (cls.length + 1) * 2 + 1 - cls.length * 2 = 3 by omega]; rfl)
  have a1 : ((cls.length : Int) + 1).toNat = cls.length + 1 := by omega
  have a2 : ((cls.length : Int) + 2).toNat = cls.length + 2 := by omega
  have e77 : ((77 : Int) == 77) = true := by decide
  clear hL hca hb hfl
  go_enter Try.func39, Try.ntmps39
  go_wp2_with (go_at_call 78; refine (same_any st rest _ _ _ _ cls _ (HA.out.below (((Below.refl _ _).alloc (Nat.le_refl _) _).alloc (by simp) _)) (HB.out.below (((Below.refl _ _).alloc (Nat.le_refl _) _).alloc (by simp) _))).mono ?_; rintro e1 w1 ⟨rfl, hb1⟩; have hw1 : Below w.heap.size w w1 := (((Below.refl _ _).alloc (Nat.le_refl _) _).alloc (by simp) _).trans (hb1.mono (by simp; omega)); have q2 := (hb1.cell (p := ⟨w.heap.size, 2, none⟩) (by simp; omega)).trans ((World.cell?_alloc_lt _ _ _ (by simp)).trans (World.cell?_alloc_new _ _ _ _)); have m0 := (hw1.cell (p := ⟨L, cls.length * 2, none⟩) hLl).trans n0; have m1 := (hw1.cell (p := ⟨L, cls.length * 2 + 1, none⟩) hLl).trans n1; have m2 := (hw1.cell (p := ⟨L, (cls.length + 1) * 2, none⟩) hLl).trans n2; have m3 := (hw1.cell (p := ⟨L, (cls.length + 1) * 2 + 1, none⟩) hLl).trans n3)
  have hown : Own w L (cls.length * 2 + 4) w1 := ⟨Kept.of_below hw1 _, _, HL.out.below hw1 hLl, by rw [List.length_append, flat_len clsCells 2 (fun _ => rfl)]; rfl⟩
  go_loopw [9] (fun i wr => ∃ m : Nat, m ≤ cls.length + 2 ∧ i = .int .i64 (m : Int) ∧ Own w L (cls.length * 2 + 4) wr) (fun i _ => cls.length + 2 - (intOf i).toNat)
  case atStart => exact ⟨0, by omega, rfl, hown⟩
  case round =>
    obtain ⟨m, hm, rfl, ho⟩ := hrel
    clear hown m0 m1 m2 m3 n0 n1 n2 n3 q2
    by_cases hlt : m < cls.length + 2
    · obtain ⟨v0, c0⟩ := ho.cell (m * 2) (by omega)
      obtain ⟨v1, c1⟩ := ho.cell (m * 2 + 1) (by omega)
      have f0 := ho.frozen (m * 2)
      have f1 := ho.frozen (m * 2 + 1)
      have hs := (ho.setCell (m * 2) (.int .i64 3)).setCell (m * 2 + 1) (.int .i64 2)
      go_wp2
      go_roundw
      case rel => exact ⟨m + 1, by omega, by go_num, hs⟩
      case measure => simp [intOf]; omega
    · go_wp2
      go_ret
      exact ⟨rfl, ho.kept⟩
end Go.Proofs.Ytjikemhmnkckcaa
