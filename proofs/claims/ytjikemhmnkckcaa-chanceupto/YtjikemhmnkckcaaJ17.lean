import Derived.Test.YtjikemhmnkckcaaJ11
import Derived.Test.YtjikemhmnkckcaaJ16
namespace Go.Proofs.Ytjikemhmnkckcaa
open Go.RowKit

theorem slotOf_with (G : GSt) (k j s : Nat) (xs : List GSlot) (hk : k < G.cs.length) : slotOf (G.withSlots k xs) j s = if j = k then xs.getD s GSlot.no else slotOf G j s := by
  unfold slotOf
  rw [withSlots_getD G k j xs hk]
  split <;> rfl
theorem slotOf_mem (G : GSt) (mem : List Int) (k s : Nat) : slotOf ⟨G.st, G.rest, G.cs, mem⟩ k s = slotOf G k s := rfl

theorem gives_eq (t z si : Int) (k s k' s' : Nat) : (⟨false, (k : Int), (s : Int), t, z, si⟩ : Ref.Ev).gives k' s' = true ↔ k' = k ∧ s' = s := by
  simp [Ref.Ev.gives]; omega
theorem takes_eq (t z si : Int) (k s k' s' : Nat) : (⟨true, (k : Int), (s : Int), t, z, si⟩ : Ref.Ev).takes k' s' = true ↔ k' = k ∧ s' = s := by
  simp [Ref.Ev.takes]; omega
theorem takes_no (t z si : Int) (k s k' s' : Int) : (⟨false, k, s, t, z, si⟩ : Ref.Ev).takes k' s' = false := by simp [Ref.Ev.takes]
theorem gives_no (t z si : Int) (k s k' s' : Int) : (⟨true, k, s, t, z, si⟩ : Ref.Ev).gives k' s' = false := by simp [Ref.Ev.gives]
theorem frees_no (t z si : Int) (k s k' : Int) : (⟨false, k, s, t, z, si⟩ : Ref.Ev).frees k' = false := by simp [Ref.Ev.frees]
theorem frees_eq (t z si : Int) (k s k' : Nat) : (⟨true, (k : Int), (s : Int), t, z, si⟩ : Ref.Ev).frees k' = decide (k' = k) := by
  rw [Bool.eq_iff_iff]; simp [Ref.Ev.frees]; omega

/-- a slot of which the new event says nothing, in a class of which it says nothing -/
theorem SlotSim.other {log : List Ref.Ev} {rest : Int} {k s : Nat} {x : GSlot} (h : SlotSim log rest k s x) (e : Ref.Ev) (hg : e.gives k s = false) (ht : e.takes k s = false) (hf : e.frees k = false) : SlotSim (log ++ [e]) rest k s x := by
  have g2 := Ref.given_hi log (k : Int) (s : Int)
  have o2 := Ref.gone_hi log (k : Int) (s : Int)
  have e1 : Ref.given (log ++ [e]) k s = Ref.given log k s := by rw [Ref.given_snoc, if_neg (by rw [hg]; decide)]
  have e2 : Ref.gone (log ++ [e]) k s = Ref.gone log k s := by
    rw [Ref.gone_snoc log e k s hg, if_neg (c := e.takes (k : Int) (s : Int) = true) (by rw [ht]; decide)]
    have := Ref.gone_lo log (k : Int) (s : Int)
    split <;> omega
  have e3 : Ref.state (log ++ [e]) k s = Ref.state log k s := by unfold Ref.state; rw [e1, e2]
  have eg : 0 ≤ Ref.given log k s → (log ++ [e]).getD (Ref.given log k s).toNat Ref.Ev.no = log.getD (Ref.given log k s).toNat Ref.Ev.no := fun h0 => Ref.getD_old log e _ (by omega)
  refine ⟨by rw [e3]; exact h.st, ?_, ?_, ?_, ?_, ?_⟩
  · rw [h.tag]; unfold Ref.last; rw [e1]
    by_cases h0 : Ref.given log k s < 0
    · rw [if_pos h0, if_pos h0]
    · rw [if_neg h0, if_neg h0, eg (by omega)]
  · rw [e1]; intro h0; rw [eg h0]; exact h.bytes h0
  · rw [h.rest, e3]
    by_cases h4 : Ref.state log k s = 4
    · rw [if_pos h4, if_pos h4]
      have hgo : 0 ≤ Ref.gone log k s := by unfold Ref.state at h4; split at h4; · omega
                                            split at h4 <;> omega
      rw [Ref.since_old log e k s hg hgo, hf]; simp
    · rw [if_neg h4, if_neg h4]
  · rw [h.alloc, e1]
    by_cases h0 : Ref.given log k s < 0
    · rw [if_pos h0, if_pos h0]
    · rw [if_neg h0, if_neg h0, eg (by omega)]
  · rw [h.gone, e3, e2]
    by_cases h4 : Ref.state log k s = 4
    · rw [if_pos h4, if_pos h4]
      have hgo : 0 ≤ Ref.gone log k s := by unfold Ref.state at h4; split at h4; · omega
                                            split at h4 <;> omega
      rw [Ref.getD_old log e _ (by omega)]
    · rw [if_neg h4, if_neg h4]

/-- the slot that is given out -/
theorem SlotSim.given_ {log : List Ref.Ev} {rest : Int} (k s : Nat) (t z si : Int) : SlotSim (log ++ [⟨false, k, s, t, z, si⟩]) rest k s ⟨3, t, 16 * z, 0, si, 0⟩ := by
  have hg : (⟨false, (k : Int), (s : Int), t, z, si⟩ : Ref.Ev).gives k s = true := (gives_eq _ _ _ _ _ _ _).2 ⟨rfl, rfl⟩
  have e1 : Ref.given (log ++ [⟨false, (k : Int), (s : Int), t, z, si⟩]) k s = (log.length : Int) := by rw [Ref.given_snoc, if_pos hg]
  have e2 := Ref.gone_gives log _ k s hg
  have e3 : Ref.state (log ++ [⟨false, (k : Int), (s : Int), t, z, si⟩]) k s = 3 := by
    unfold Ref.state; rw [e1, e2, if_neg (by omega), if_pos (by omega)]
  have eg : (log ++ [(⟨false, (k : Int), (s : Int), t, z, si⟩ : Ref.Ev)]).getD ((log.length : Int)).toNat Ref.Ev.no = ⟨false, k, s, t, z, si⟩ := by rw [Int.toNat_natCast]; exact Ref.getD_new _ _
  refine ⟨e3.symm, ?_, ?_, ?_, ?_, ?_⟩
  · unfold Ref.last; rw [e1, if_neg (by omega), eg]
  · intro _; rw [e1, eg]
  · rw [e3]; rfl
  · rw [e1, if_neg (by omega), eg]
  · rw [e3]; rfl

/-- the slot that is taken back -/
theorem SlotSim.taken {log : List Ref.Ev} {rest : Int} {k s : Nat} {x : GSlot} (h : SlotSim log rest k s x) (h3 : Ref.state log k s = 3) (hr : 0 ≤ rest) (si : Int) : SlotSim (log ++ [⟨true, k, s, 0, 0, si⟩]) rest k s ⟨4, x.tag, x.bytes, rest, x.alloc, si⟩ := by
  have g2 := Ref.given_hi log (k : Int) (s : Int)
  have hg := gives_no 0 0 si (k : Int) s k s
  have ht : (⟨true, (k : Int), (s : Int), 0, 0, si⟩ : Ref.Ev).takes k s = true := (takes_eq _ _ _ _ _ _ _).2 ⟨rfl, rfl⟩
  have hgv : 0 ≤ Ref.given log k s ∧ Ref.gone log k s < 0 := by
    unfold Ref.state at h3; split at h3
    · omega
    · split at h3
      · omega
      · omega
  have e1 : Ref.given (log ++ [⟨true, (k : Int), (s : Int), 0, 0, si⟩]) k s = Ref.given log k s := by rw [Ref.given_snoc, if_neg (by rw [hg]; decide)]
  have e2 : Ref.gone (log ++ [⟨true, (k : Int), (s : Int), 0, 0, si⟩]) k s = (log.length : Int) := by
    rw [Ref.gone_snoc log _ k s hg, if_neg (by omega), if_pos ht]
  have e3 : Ref.state (log ++ [⟨true, (k : Int), (s : Int), 0, 0, si⟩]) k s = 4 := by
    unfold Ref.state; rw [e1, e2, if_neg (by omega), if_neg (by omega)]
  have eg := Ref.getD_old log ⟨true, (k : Int), (s : Int), 0, 0, si⟩ (Ref.given log k s).toNat (by omega)
  refine ⟨e3.symm, ?_, ?_, ?_, ?_, ?_⟩
  · show x.tag = _; rw [h.tag]; unfold Ref.last; rw [e1, if_neg (by omega), if_neg (by omega), eg]
  · show _ → x.bytes = _; rw [e1]; intro h0; rw [eg]; exact h.bytes h0
  · show rest = _; rw [e3, if_pos rfl, Ref.since_new log _ k s e2]; simp; omega
  · show x.alloc = _; rw [h.alloc, e1, eg]
  · show si = _; rw [e3, if_pos rfl, e2, Int.toNat_natCast, Ref.getD_new]

/-- another slot of the class in which a slot is taken back -/
theorem SlotSim.nearer {log : List Ref.Ev} {rest : Int} {k s : Nat} {x : GSlot} (h : SlotSim log rest k s x) (s0 : Nat) (hs : s ≠ s0) (si : Int) : SlotSim (log ++ [⟨true, k, s0, 0, 0, si⟩]) rest k s (dec1 x) := by
  have g2 := Ref.given_hi log (k : Int) (s : Int)
  have o2 := Ref.gone_hi log (k : Int) (s : Int)
  have hg := gives_no 0 0 si (k : Int) s0 k s
  have ht : (⟨true, (k : Int), (s0 : Int), 0, 0, si⟩ : Ref.Ev).takes k s = false := by
    cases e : (⟨true, (k : Int), (s0 : Int), 0, 0, si⟩ : Ref.Ev).takes k s
    · rfl
    · exact absurd ((takes_eq _ _ _ _ _ _ _).1 e).2 hs
  have hf : (⟨true, (k : Int), (s0 : Int), 0, 0, si⟩ : Ref.Ev).frees k = true := by rw [frees_eq]; simp
  have e1 : Ref.given (log ++ [⟨true, (k : Int), (s0 : Int), 0, 0, si⟩]) k s = Ref.given log k s := by rw [Ref.given_snoc, if_neg (by rw [hg]; decide)]
  have e2 : Ref.gone (log ++ [⟨true, (k : Int), (s0 : Int), 0, 0, si⟩]) k s = Ref.gone log k s := by
    rw [Ref.gone_snoc log _ k s hg, if_neg (c := Ref.Ev.takes _ (k : Int) (s : Int) = true) (by rw [ht]; decide)]
    have := Ref.gone_lo log (k : Int) (s : Int)
    split <;> omega
  have e3 : Ref.state (log ++ [⟨true, (k : Int), (s0 : Int), 0, 0, si⟩]) k s = Ref.state log k s := by unfold Ref.state; rw [e1, e2]
  have eg : 0 ≤ Ref.given log k s → (log ++ [(⟨true, (k : Int), (s0 : Int), 0, 0, si⟩ : Ref.Ev)]).getD (Ref.given log k s).toNat Ref.Ev.no = log.getD (Ref.given log k s).toNat Ref.Ev.no := fun h0 => Ref.getD_old log _ _ (by omega)
  have hd : (dec1 x).state = x.state ∧ (dec1 x).tag = x.tag ∧ (dec1 x).bytes = x.bytes ∧ (dec1 x).alloc = x.alloc ∧ (dec1 x).gone = x.gone ∧ (dec1 x).rest = if 0 < x.rest then x.rest - 1 else x.rest := by
    unfold dec1; split <;> exact ⟨rfl, rfl, rfl, rfl, rfl, rfl⟩
  refine ⟨by rw [e3, hd.1]; exact h.st, ?_, ?_, ?_, ?_, ?_⟩
  · rw [hd.2.1, h.tag]; unfold Ref.last; rw [e1]
    by_cases h0 : Ref.given log k s < 0
    · rw [if_pos h0, if_pos h0]
    · rw [if_neg h0, if_neg h0, eg (by omega)]
  · rw [hd.2.2.1, e1]; intro h0; rw [eg h0]; exact h.bytes h0
  · rw [hd.2.2.2.2.2, h.rest, e3]
    by_cases h4 : Ref.state log k s = 4
    · rw [if_pos h4, if_pos h4]
      have hgo : 0 ≤ Ref.gone log k s := by unfold Ref.state at h4; split at h4; · omega
                                            split at h4 <;> omega
      rw [Ref.since_old log _ k s hg hgo, hf, if_pos rfl]
      split <;> omega
    · rw [if_neg h4, if_neg h4]; rfl
  · rw [hd.2.2.2.1, h.alloc, e1]
    by_cases h0 : Ref.given log k s < 0
    · rw [if_pos h0, if_pos h0]
    · rw [if_neg h0, if_neg h0, eg (by omega)]
  · rw [hd.2.2.2.2.1, h.gone, e3, e2]
    by_cases h4 : Ref.state log k s = 4
    · rw [if_pos h4, if_pos h4]
      have hgo : 0 ≤ Ref.gone log k s := by unfold Ref.state at h4; split at h4; · omega
                                            split at h4 <;> omega
      rw [Ref.getD_old log _ _ (by omega)]
    · rw [if_neg h4, if_neg h4]
end Go.Proofs.Ytjikemhmnkckcaa
namespace Go.Proofs.Ytjikemhmnkckcaa
open Go.RowKit

theorem Sim.len {G : GSt} {R : RSt} (h : Sim G R) {k : Nat} (hk : k < R.cls.length) : (G.cs.getD k GCls.no).slots.length = (Cf.sl R.cls k).toNat := by
  have := h.ok.sl k hk; omega

theorem Sim.openB {G : GSt} {R : RSt} (h : Sim G R) {k s : Nat} (hk : k < R.cls.length) (hs : s < (Cf.sl R.cls k).toNat) : gopenB (G.cs.getD k GCls.no).slots s = Ref.openB R.log R.rest k s := by
  have hx := h.slots k s hk hs
  have e : (G.cs.getD k GCls.no).slots.getD s GSlot.no = slotOf G k s := rfl
  unfold gopenB Ref.openB
  rw [e, hx.st, hx.rest]
  by_cases h3 : Ref.state R.log k s = 3
  · simp [h3]
  · have : (Ref.state R.log k s != 3) = true := by rw [bne_iff_ne]; exact h3
    rw [this, Bool.true_and, Bool.true_and]
    by_cases h4 : Ref.state R.log k s = 4
    · rw [if_pos h4]
      have hgo : ¬ Ref.gone R.log k s < 0 := by
        unfold Ref.state at h4; split at h4
        · omega
        · split at h4 <;> omega
      unfold Ref.rests
      rw [if_neg hgo, Bool.eq_iff_iff]
      simp; omega
    · rw [if_neg h4]
      have hgv : Ref.given R.log k s < 0 := by
        unfold Ref.state at h3 h4; split at h3
        · assumption
        · rename_i h1; rw [if_neg h1] at h4; split at h3 <;> simp_all
      have hgo := h.log.vir k s hgv
      unfold Ref.rests
      rw [if_pos hgo]; rfl

theorem Sim.first {G : GSt} {R : RSt} (h : Sim G R) {k : Nat} (hk : k < R.cls.length) : Ref.firstFrom (gopenB (G.cs.getD k GCls.no).slots) (G.cs.getD k GCls.no).slots.length 0 = Ref.first R.log R.rest R.cls k := by
  rw [h.len hk]
  exact Ref.firstFrom_congr _ _ _ _ fun j _ hj => h.openB hk (by omega)

theorem given_none (log : List Ref.Ev) (k s : Int) (m : Nat) (h : ∀ i, i < m → (log.getD i Ref.Ev.no).gives k s = false) : Ref.givenTo log k s m = -1 := by
  induction m with
  | zero => rfl
  | succ m ih => simp only [Ref.givenTo]; rw [if_neg (by rw [h m (by omega)]; decide)]; exact ih (fun i hi => h i (by omega))

theorem Sim.last {G : GSt} {R : RSt} (h : Sim G R) {k : Nat} (hk : k < R.cls.length) (i : Int) : glast (G.cs.getD k GCls.no).slots i = Ref.last R.log k i := by
  unfold glast
  rw [h.len hk]
  have hs1 := h.ok.conf.s0 k hk
  by_cases hi : 0 ≤ i ∧ i < ((Cf.sl R.cls k).toNat : Int)
  · rw [if_pos hi]
    obtain ⟨s, rfl⟩ := Int.eq_ofNat_of_zero_le hi.1
    exact (h.slots k s hk (by omega)).tag
  · rw [if_neg hi]
    have : Ref.given R.log k i = -1 := given_none R.log k i R.log.length (fun j hj => by
      cases e : (R.log.getD j Ref.Ev.no).gives k i
      · rfl
      · exfalso
        have h1 := h.log.slot0 j hj
        have h2 := h.log.slot1 j hj
        simp only [Ref.Ev.gives, Bool.and_eq_true, beq_iff_eq] at e
        rw [e.1.2, Int.toNat_natCast] at h2
        rw [e.2] at h1 h2
        omega)
    unfold Ref.last
    rw [this, if_pos (by omega)]

theorem Sim.tagOf {G : GSt} {R : RSt} (h : Sim G R) {k : Nat} (hk : k < R.cls.length) (s : Nat) (draw : Int) :
    PickMath.pick (glast (G.cs.getD k GCls.no).slots s) (glast (G.cs.getD k GCls.no).slots ((s : Int) - 1)) (glast (G.cs.getD k GCls.no).slots ((s : Int) + 1)) draw = Ref.tagOf R.log k s draw := by
  unfold Ref.tagOf
  rw [h.last hk, h.last hk, h.last hk]

namespace Cf
theorem inS_uniq {st rest : Int} {cls : List (Int × Int)} (hv : Valid st rest cls) (a : Int) (k s k' s' : Nat) (hk : k < cls.length) (hk' : k' < cls.length) (hs : s < (sl cls k).toNat) (hs' : s' < (sl cls k').toNat)
    (h : inS st cls a k s = true) (h' : inS st cls a k' s' = true) : k = k' ∧ s = s' := by
  have aux : ∀ k s k' s' : Nat, k < cls.length → k' < cls.length → s < (sl cls k).toNat → inS st cls a k s = true → inS st cls a k' s' = true → k < k' → False := by
    intro k s k' s' hk hk' hs h h' hlt
    simp only [inS, Bool.and_eq_true, decide_eq_true_eq] at h h'
    have hb := begin_end hv k s hk (by omega)
    have hg := hv.g0 k hk
    have hg' := hv.g0 k' hk'
    have h1 := gran_mono hv (k + 1) k' (by omega) (by omega)
    have h2 : (s : Int) * gr cls k + gr cls k ≤ sl cls k * gr cls k := by
      have : ((s : Int) + 1) * gr cls k ≤ sl cls k * gr cls k := Int.mul_le_mul_of_nonneg_right (by omega) (by omega)
      rw [Int.add_mul] at this; omega
    have h3 : 0 ≤ (s' : Int) * gr cls k' := Int.mul_nonneg (by omega) (by omega)
    simp only [gran] at h1
    unfold begin_ at h h'
    omega
  rcases Nat.lt_trichotomy k k' with hlt | he | hgt
  · exact (aux k s k' s' hk hk' hs h h' hlt).elim
  · subst he
    have hg := hv.g0 k hk
    have e1 := (inS_iff st cls a k s (by omega)).1 h
    have e2 := (inS_iff st cls a k s' (by omega)).1 h'
    exact ⟨rfl, by omega⟩
  · exact (aux k' s' k s hk' hk hs' h' h hgt).elim

theorem inS_begin {st rest : Int} {cls : List (Int × Int)} (hv : Valid st rest cls) (k s : Nat) (hk : k < cls.length) : inS st cls (begin_ st cls k s) k s = true := by
  have hg := hv.g0 k hk
  simp only [inS, Bool.and_eq_true, decide_eq_true_eq]; omega

/-- an address in a slot is found there -/
theorem slot_found {st rest : Int} {cls : List (Int × Int)} (hv : Valid st rest cls) (a : Int) (k s : Nat) (hk : k < cls.length) (hs : s < (sl cls k).toNat) (h : inS st cls a k s = true) : slot st cls a = ((k : Int), (s : Int)) := by
  rcases slot_bd st cls a with h0 | ⟨i, j, h1, h2, h3, h4⟩
  · exfalso
    have aux : ∀ f k0, k0 ≤ k → k < k0 + f → (slotFrom st cls a f k0).1 ≠ -1 := by
      intro f
      induction f with
      | zero => intro k0 h1 h2; omega
      | succ f ih =>
        intro k0 h1 h2
        simp only [slotFrom]
        by_cases e : 0 ≤ slotIn st cls a k0
        · rw [if_pos e]; simp
        · rw [if_neg e]
          by_cases e2 : k0 = k
          · subst e2
            exfalso; apply e
            unfold slotIn
            rcases Int.lt_or_le (Ref.firstFrom (inS st cls a k0) (sl cls k0).toNat 0) 0 with hl | hl
            · have hlo := Ref.firstFrom_lo (inS st cls a k0) (sl cls k0).toNat 0
              have := Ref.firstFrom_no _ _ _ (show Ref.firstFrom (inS st cls a k0) (sl cls k0).toNat 0 = -1 by omega) s (by omega) (by omega)
              rw [h] at this; cases this
            · exact hl
          · exact ih (k0 + 1) (by omega) (by omega)
    exact aux cls.length 0 (by omega) (by omega) (by unfold slot at h0; rw [h0])
  · obtain ⟨e1, e2⟩ := inS_uniq hv a k s i j hk h2 hs h3 h h4
    rw [h1, e1, e2]
end Cf

theorem blockFrom_none (st : Int) (cls : List (Int × Int)) (log : List Ref.Ev) (a t : Int) (f k : Nat) (h : ∀ k' s', k ≤ k' → k' < k + f → s' < (Cf.sl cls k').toNat → Ref.matchB st cls log a t k' s' = false) : Ref.blockFrom st cls log a t f k = (0, 0, 8) := by
  induction f generalizing k with
  | zero => rfl
  | succ f ih =>
    simp only [Ref.blockFrom]
    have : Ref.blockIn st cls log a t k = -1 := Cf.firstFrom_none _ _ _ (fun j _ hj => h k j (Nat.le_refl _) (by omega) (by omega))
    rw [this, if_neg (by omega)]
    exact ih (k + 1) (fun k' s' h1 h2 h3 => h k' s' (by omega) (by omega) h3)
theorem blockFrom_one (st : Int) (cls : List (Int × Int)) (log : List Ref.Ev) (a t : Int) (k s : Nat) (f k0 : Nat) (h1 : k0 ≤ k) (h2 : k < k0 + f) (hs : s < (Cf.sl cls k).toNat) (hm : Ref.matchB st cls log a t k s = true)
    (h : ∀ k' s', k' < k0 + f → s' < (Cf.sl cls k').toNat → Ref.matchB st cls log a t k' s' = true → k' = k ∧ s' = s) : Ref.blockFrom st cls log a t f k0 = if Ref.state log k s = 4 then (0, 0, 9) else ((k : Int), (s : Int), 0) := by
  induction f generalizing k0 with
  | zero => omega
  | succ f ih =>
    simp only [Ref.blockFrom]
    by_cases e : k0 = k
    · subst e
      have : Ref.blockIn st cls log a t k0 = s := Cf.firstFrom_one _ s _ 0 (by omega) (by omega) hm (fun j _ hj => by
        cases e : Ref.matchB st cls log a t k0 j
        · rfl
        · have := (h k0 j (by omega) (by omega) e).2; omega)
      rw [this, if_pos (by omega)]
    · have : Ref.blockIn st cls log a t k0 = -1 := Cf.firstFrom_none _ _ _ (fun j _ hj => by
        cases e2 : Ref.matchB st cls log a t k0 j
        · rfl
        · have := (h k0 j (by omega) (by omega) e2).1; omega)
      rw [this, if_neg (by omega)]
      exact ih (k0 + 1) (by omega) (by omega) (fun k' s' h3 h4 h5 => h k' s' (by omega) h4 h5)

theorem match_iff (st : Int) (cls : List (Int × Int)) (log : List Ref.Ev) (a t : Int) (k s : Nat) : Ref.matchB st cls log a t k s = true ↔ Cf.begin_ st cls k s = a ∧ Ref.last log k s = t ∧ Ref.state log k s ≠ 2 := by
  simp [Ref.matchB, and_assoc]

theorem Sim.block {G : GSt} {R : RSt} (h : Sim G R) (q : Int) : gblock G R.cls q = Ref.block R.st R.cls R.log q := by
  cases ht : Ref.tameB q
  · rw [gblock_wild G R.cls q ht]; unfold Ref.block; rw [ht]; rfl
  · have hb : Ref.block R.st R.cls R.log q = Ref.blockFrom R.st R.cls R.log (q % 72057594037927936) (q / 72057594037927936) R.cls.length 0 := by unfold Ref.block; rw [ht]; rfl
    rw [hb]
    have hv := h.ok.conf
    rw [h.st] at hv
    have key : ∀ k' s', k' < R.cls.length → s' < (Cf.sl R.cls k').toNat → Ref.matchB R.st R.cls R.log (q % 72057594037927936) (q / 72057594037927936) k' s' = true → Cf.slot R.st R.cls (q % 72057594037927936) = ((k' : Int), (s' : Int)) := fun k' s' hk' hs' hm => by
      have hbe := ((match_iff _ _ _ _ _ _ _).1 hm).1
      have hi := Cf.inS_begin hv k' s' hk'
      rw [hbe] at hi
      exact Cf.slot_found hv _ k' s' hk' hs' hi
    rcases Cf.slot_bd R.st R.cls (q % 72057594037927936) with hsl | ⟨k, s, hsl, hk, hs, _⟩
    · rw [gblock_none G R.cls q ht (by rw [h.st]; exact hsl)]
      refine (blockFrom_none _ _ _ _ _ _ _ (fun k' s' _ h2 h3 => ?_)).symm
      cases e : Ref.matchB R.st R.cls R.log (q % 72057594037927936) (q / 72057594037927936) k' s'
      · rfl
      · have := key k' s' (by omega) h3 e
        rw [hsl] at this
        have := congrArg Prod.fst this
        simp at this
    · rw [gblock_at G R.cls q k s ht (by rw [h.st]; exact hsl), h.st]
      have hx := h.slots k s hk hs
      have only : ∀ k' s', k' < R.cls.length → s' < (Cf.sl R.cls k').toNat → Ref.matchB R.st R.cls R.log (q % 72057594037927936) (q / 72057594037927936) k' s' = true → k' = k ∧ s' = s := fun k' s' h1 h2 h3 => by
        have := key k' s' h1 h2 h3
        rw [hsl] at this
        have e1 := congrArg Prod.fst this
        have e2 := congrArg Prod.snd this
        simp at e1 e2
        omega
      cases hm : Ref.matchB R.st R.cls R.log (q % 72057594037927936) (q / 72057594037927936) k s
      · have hno : Ref.blockFrom R.st R.cls R.log (q % 72057594037927936) (q / 72057594037927936) R.cls.length 0 = (0, 0, 8) := blockFrom_none _ _ _ _ _ _ _ (fun k' s' _ h2 h3 => by
          cases e : Ref.matchB R.st R.cls R.log (q % 72057594037927936) (q / 72057594037927936) k' s'
          · rfl
          · obtain ⟨e1, e2⟩ := only k' s' (by omega) h3 e
            rw [e1, e2, hm] at e; cases e)
        rw [hno]
        by_cases hbe : Cf.begin_ R.st R.cls k s = q % 72057594037927936
        · rw [if_neg (by simp [hbe])]
          unfold gfound
          rw [if_pos]
          rw [hx.st, hx.tag]
          by_cases e2 : Ref.state R.log k s = 2
          · exact .inl e2
          · right
            intro e3
            have := (match_iff R.st R.cls R.log (q % 72057594037927936) (q / 72057594037927936) k s).2 ⟨hbe, e3, e2⟩
            rw [hm] at this; cases this
        · rw [if_pos hbe]
      · obtain ⟨m1, m2, m3⟩ := (match_iff _ _ _ _ _ _ _).1 hm
        rw [blockFrom_one _ _ _ _ _ k s _ _ (by omega) (by omega) hs hm (fun k' s' h1 h2 h3 => only k' s' (by omega) h2 h3), if_neg (by simp [m1])]
        unfold gfound
        rw [hx.st, hx.tag, if_neg (by simp [m2, m3])]
end Go.Proofs.Ytjikemhmnkckcaa
