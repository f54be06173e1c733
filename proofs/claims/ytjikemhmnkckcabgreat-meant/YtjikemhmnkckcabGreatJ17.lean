import Derived.Test.YtjikemhmnkckcabGreatJ16
namespace Go.Proofs.YtjikemhmnkckcabGreat
open Go.RowKit
theorem slotOf_with (G : GSt) (k j s : Nat) (xs : List GSlot) (hk : k < G.cs.length) : slotOf (G.withSlots k xs) j s = if j = k then xs.getD s GSlot.no else slotOf G j s := by
 unfold slotOf;rw [withSlots_getD G k j xs hk]
 split <;> rfl
theorem gives_eq (t z si : Int) (k s k' s' : Nat) : (⟨false, (k : Int), (s : Int), t, z, si⟩ : Ref.Ev).gives k' s' = true ↔ k' = k ∧ s' = s := by
 simp [Ref.Ev.gives]; omega
theorem takes_eq (t z si : Int) (k s k' s' : Nat) : (⟨true, (k : Int), (s : Int), t, z, si⟩ : Ref.Ev).takes k' s' = true ↔ k' = k ∧ s' = s := by
 simp [Ref.Ev.takes]; omega
theorem takes_no (t z si : Int) (k s k' s' : Int) : (⟨false, k, s, t, z, si⟩ : Ref.Ev).takes k' s' = false := by simp [Ref.Ev.takes]
theorem gives_no (t z si : Int) (k s k' s' : Int) : (⟨true, k, s, t, z, si⟩ : Ref.Ev).gives k' s' = false := by simp [Ref.Ev.gives]
theorem frees_no (t z si : Int) (k s k' : Int) : (⟨false, k, s, t, z, si⟩ : Ref.Ev).frees k' = false := by simp [Ref.Ev.frees]
theorem frees_eq (t z si : Int) (k s k' : Nat) : (⟨true, (k : Int), (s : Int), t, z, si⟩ : Ref.Ev).frees k' = decide (k' = k) := by
 rw [Bool.eq_iff_iff]; simp [Ref.Ev.frees]; omega
theorem SlotSim.other {log : List Ref.Ev} {rest : Int} {k s : Nat} {x : GSlot} (h : SlotSim log rest k s x) (e : Ref.Ev) (hg : e.gives k s = false) (ht : e.takes k s = false) (hf : e.frees k = false) : SlotSim (log ++ [e]) rest k s x := by
 have g2 := Ref.given_hi log (k : Int) (s : Int);have o2 := Ref.gone_hi log (k : Int) (s : Int);have e1 : Ref.given (log ++ [e]) k s = Ref.given log k s := by rw [Ref.given_snoc, if_neg (by rw [hg]; decide)]
 have e2 : Ref.gone (log ++ [e]) k s = Ref.gone log k s := by
  rw [Ref.gone_snoc log e k s hg, if_neg (c := e.takes (k : Int) (s : Int) = true) (by rw [ht]; decide)];have := Ref.gone_lo log (k : Int) (s : Int)
  split <;> omega
 have e3 : Ref.state (log ++ [e]) k s = Ref.state log k s := by unfold Ref.state; rw [e1, e2]
 have eg : 0 ≤ Ref.given log k s → (log ++ [e]).getD (Ref.given log k s).toNat Ref.Ev.no = log.getD (Ref.given log k s).toNat Ref.Ev.no := fun h0 => Ref.getD_old log e _ (by omega)
 refine ⟨by rw [e3]; exact h.st, ?_, ?_, ?_, ?_, ?_⟩
 ·rw [h.tag]; unfold Ref.last; rw [e1]
  by_cases h0 : Ref.given log k s < 0
  ·rw [if_pos h0, if_pos h0]
  ·rw [if_neg h0, if_neg h0, eg (by omega)]
 ·rw [e1]; intro h0; rw [eg h0]; exact h.bytes h0
 ·rw [h.rest, e3]
  by_cases h4 : Ref.state log k s = 4
  ·rw [if_pos h4, if_pos h4]
   have hgo : 0 ≤ Ref.gone log k s := by unfold Ref.state at h4; split at h4; · omega
                                         split at h4 <;> omega
   rw [Ref.since_old log e k s hg hgo, hf]; simp
  ·rw [if_neg h4, if_neg h4]
 ·rw [h.alloc, e1]
  by_cases h0 : Ref.given log k s < 0
  ·rw [if_pos h0, if_pos h0]
  ·rw [if_neg h0, if_neg h0, eg (by omega)]
 ·rw [h.gone, e3, e2]
  by_cases h4 : Ref.state log k s = 4
  ·rw [if_pos h4, if_pos h4]
   have hgo : 0 ≤ Ref.gone log k s := by unfold Ref.state at h4; split at h4; · omega
                                         split at h4 <;> omega
   rw [Ref.getD_old log e _ (by omega)]
  ·rw [if_neg h4, if_neg h4]
theorem SlotSim.given_ {log : List Ref.Ev} {rest : Int} (k s : Nat) (t z si : Int) : SlotSim (log ++ [⟨false, k, s, t, z, si⟩]) rest k s ⟨3, t, 16 * z, 0, si, 0⟩ := by
 have hg : (⟨false, (k : Int), (s : Int), t, z, si⟩ : Ref.Ev).gives k s = true := (gives_eq _ _ _ _ _ _ _).2 ⟨rfl, rfl⟩;have e1 : Ref.given (log ++ [⟨false, (k : Int), (s : Int), t, z, si⟩]) k s = (log.length : Int) := by rw [Ref.given_snoc, if_pos hg]
 have e2 := Ref.gone_gives log _ k s hg
 have e3 : Ref.state (log ++ [⟨false, (k : Int), (s : Int), t, z, si⟩]) k s = 3 := by
  unfold Ref.state; rw [e1, e2, if_neg (by omega), if_pos (by omega)]
 have eg : (log ++ [(⟨false, (k : Int), (s : Int), t, z, si⟩ : Ref.Ev)]).getD ((log.length : Int)).toNat Ref.Ev.no = ⟨false, k, s, t, z, si⟩ := by rw [Int.toNat_natCast]; exact Ref.getD_new _ _
 refine ⟨e3.symm, ?_, ?_, ?_, ?_, ?_⟩
 ·unfold Ref.last; rw [e1, if_neg (by omega), eg]
 ·intro _; rw [e1, eg]
 ·rw [e3]; rfl
 ·rw [e1, if_neg (by omega), eg]
 ·rw [e3]; rfl
theorem SlotSim.taken {log : List Ref.Ev} {rest : Int} {k s : Nat} {x : GSlot} (h : SlotSim log rest k s x) (h3 : Ref.state log k s = 3) (hr : 0 ≤ rest) (si : Int) : SlotSim (log ++ [⟨true, k, s, 0, 0, si⟩]) rest k s ⟨4, x.tag, x.bytes, rest, x.alloc, si⟩ := by
 have g2 := Ref.given_hi log (k : Int) (s : Int);have hg := gives_no 0 0 si (k : Int) s k s;have ht : (⟨true, (k : Int), (s : Int), 0, 0, si⟩ : Ref.Ev).takes k s = true := (takes_eq _ _ _ _ _ _ _).2 ⟨rfl, rfl⟩
 have hgv : 0 ≤ Ref.given log k s ∧ Ref.gone log k s < 0 := by
  unfold Ref.state at h3; split at h3
  ·omega
  ·split at h3
   ·omega
   ·omega
 have e1 : Ref.given (log ++ [⟨true, (k : Int), (s : Int), 0, 0, si⟩]) k s = Ref.given log k s := by rw [Ref.given_snoc, if_neg (by rw [hg]; decide)]
 have e2 : Ref.gone (log ++ [⟨true, (k : Int), (s : Int), 0, 0, si⟩]) k s = (log.length : Int) := by
  rw [Ref.gone_snoc log _ k s hg, if_neg (by omega), if_pos ht]
 have e3 : Ref.state (log ++ [⟨true, (k : Int), (s : Int), 0, 0, si⟩]) k s = 4 := by
  unfold Ref.state; rw [e1, e2, if_neg (by omega), if_neg (by omega)]
 have eg := Ref.getD_old log ⟨true, (k : Int), (s : Int), 0, 0, si⟩ (Ref.given log k s).toNat (by omega);refine ⟨e3.symm, ?_, ?_, ?_, ?_, ?_⟩
 ·show x.tag = _; rw [h.tag]; unfold Ref.last; rw [e1, if_neg (by omega), if_neg (by omega), eg]
 ·show _ → x.bytes = _; rw [e1]; intro h0; rw [eg]; exact h.bytes h0
 ·show rest = _; rw [e3, if_pos rfl, Ref.since_new log _ k s e2]; simp; omega
 ·show x.alloc = _; rw [h.alloc, e1, eg]
 ·show si = _; rw [e3, if_pos rfl, e2, Int.toNat_natCast, Ref.getD_new]
theorem SlotSim.nearer {log : List Ref.Ev} {rest : Int} {k s : Nat} {x : GSlot} (h : SlotSim log rest k s x) (s0 : Nat) (hs : s ≠ s0) (si : Int) : SlotSim (log ++ [⟨true, k, s0, 0, 0, si⟩]) rest k s (dec1 x) := by
 have g2 := Ref.given_hi log (k : Int) (s : Int);have o2 := Ref.gone_hi log (k : Int) (s : Int);have hg := gives_no 0 0 si (k : Int) s0 k s
 have ht : (⟨true, (k : Int), (s0 : Int), 0, 0, si⟩ : Ref.Ev).takes k s = false := by
  cases e : (⟨true, (k : Int), (s0 : Int), 0, 0, si⟩ : Ref.Ev).takes k s
  ·rfl
  ·exact absurd ((takes_eq _ _ _ _ _ _ _).1 e).2 hs
 have hf : (⟨true, (k : Int), (s0 : Int), 0, 0, si⟩ : Ref.Ev).frees k = true := by rw [frees_eq]; simp
 have e1 : Ref.given (log ++ [⟨true, (k : Int), (s0 : Int), 0, 0, si⟩]) k s = Ref.given log k s := by rw [Ref.given_snoc, if_neg (by rw [hg]; decide)]
 have e2 : Ref.gone (log ++ [⟨true, (k : Int), (s0 : Int), 0, 0, si⟩]) k s = Ref.gone log k s := by
  rw [Ref.gone_snoc log _ k s hg, if_neg (c := Ref.Ev.takes _ (k : Int) (s : Int) = true) (by rw [ht]; decide)];have := Ref.gone_lo log (k : Int) (s : Int)
  split <;> omega
 have e3 : Ref.state (log ++ [⟨true, (k : Int), (s0 : Int), 0, 0, si⟩]) k s = Ref.state log k s := by unfold Ref.state; rw [e1, e2]
 have eg : 0 ≤ Ref.given log k s → (log ++ [(⟨true, (k : Int), (s0 : Int), 0, 0, si⟩ : Ref.Ev)]).getD (Ref.given log k s).toNat Ref.Ev.no = log.getD (Ref.given log k s).toNat Ref.Ev.no := fun h0 => Ref.getD_old log _ _ (by omega)
 have hd : (dec1 x).state = x.state ∧ (dec1 x).tag = x.tag ∧ (dec1 x).bytes = x.bytes ∧ (dec1 x).alloc = x.alloc ∧ (dec1 x).gone = x.gone ∧ (dec1 x).rest = if 0 < x.rest then x.rest - 1 else x.rest := by
  unfold dec1; split <;> exact ⟨rfl, rfl, rfl, rfl, rfl, rfl⟩
 refine ⟨by rw [e3, hd.1]; exact h.st, ?_, ?_, ?_, ?_, ?_⟩
 ·rw [hd.2.1, h.tag]; unfold Ref.last; rw [e1]
  by_cases h0 : Ref.given log k s < 0
  ·rw [if_pos h0, if_pos h0]
  ·rw [if_neg h0, if_neg h0, eg (by omega)]
 ·rw [hd.2.2.1, e1]; intro h0; rw [eg h0]; exact h.bytes h0
 ·rw [hd.2.2.2.2.2, h.rest, e3]
  by_cases h4 : Ref.state log k s = 4
  ·rw [if_pos h4, if_pos h4]
   have hgo : 0 ≤ Ref.gone log k s := by unfold Ref.state at h4; split at h4; · omega
                                         split at h4 <;> omega
   rw [Ref.since_old log _ k s hg hgo, hf, if_pos rfl]
   split <;> omega
  ·rw [if_neg h4, if_neg h4]; rfl
 ·rw [hd.2.2.2.1, h.alloc, e1]
  by_cases h0 : Ref.given log k s < 0
  ·rw [if_pos h0, if_pos h0]
  ·rw [if_neg h0, if_neg h0, eg (by omega)]
 ·rw [hd.2.2.2.2.1, h.gone, e3, e2]
  by_cases h4 : Ref.state log k s = 4
  ·rw [if_pos h4, if_pos h4]
   have hgo : 0 ≤ Ref.gone log k s := by unfold Ref.state at h4; split at h4; · omega
                                         split at h4 <;> omega
   rw [Ref.getD_old log _ _ (by omega)]
  ·rw [if_neg h4, if_neg h4]
theorem Sim.len {G : GSt} {R : RSt} (h : Sim G R) {k : Nat} (hk : k < R.cls.length) : (G.cs.getD k GCls.no).slots.length = (Cf.sl R.cls k).toNat := by
 have := h.ok.sl k hk; omega
theorem Sim.openB {G : GSt} {R : RSt} (h : Sim G R) {k s : Nat} (hk : k < R.cls.length) (hs : s < (Cf.sl R.cls k).toNat) : gopenB (G.cs.getD k GCls.no).slots s = Ref.openB R.log R.rest k s := by
 have hx := h.slots k s hk hs;have e : (G.cs.getD k GCls.no).slots.getD s GSlot.no = slotOf G k s := rfl;unfold gopenB Ref.openB;rw [e, hx.st, hx.rest]
 by_cases h3 : Ref.state R.log k s = 3
 ·simp [h3]
 ·have : (Ref.state R.log k s != 3) = true := by rw [bne_iff_ne]; exact h3
  rw [this, Bool.true_and, Bool.true_and]
  by_cases h4 : Ref.state R.log k s = 4
  ·rw [if_pos h4]
   have hgo : ¬ Ref.gone R.log k s < 0 := by
    unfold Ref.state at h4; split at h4
    ·omega
    ·split at h4 <;> omega
   unfold Ref.rests;rw [if_neg hgo, Bool.eq_iff_iff];simp; omega
  ·rw [if_neg h4]
   have hgv : Ref.given R.log k s < 0 := by
    unfold Ref.state at h3 h4; split at h3
    ·assumption
    ·rename_i h1; rw [if_neg h1] at h4; split at h3 <;> simp_all
   have hgo := h.log.vir k s hgv;unfold Ref.rests;rw [if_pos hgo]; rfl
theorem Sim.first {G : GSt} {R : RSt} (h : Sim G R) {k : Nat} (hk : k < R.cls.length) : Ref.firstFrom (gopenB (G.cs.getD k GCls.no).slots) (G.cs.getD k GCls.no).slots.length 0 = Ref.first R.log R.rest R.cls k := by
 rw [h.len hk];exact Ref.firstFrom_congr _ _ _ _ fun j _ hj => h.openB hk (by omega)
theorem given_none (log : List Ref.Ev) (k s : Int) (m : Nat) (h : ∀ i, i < m → (log.getD i Ref.Ev.no).gives k s = false) : Ref.givenTo log k s m = -1 := by
 induction m with
 | zero => rfl
 | succ m ih => simp only [Ref.givenTo]; rw [if_neg (by rw [h m (by omega)]; decide)]; exact ih (fun i hi => h i (by omega))
theorem Sim.last {G : GSt} {R : RSt} (h : Sim G R) {k : Nat} (hk : k < R.cls.length) (i : Int) : glast (G.cs.getD k GCls.no).slots i = Ref.last R.log k i := by
 unfold glast;rw [h.len hk];have hs1 := h.ok.conf.s0 k hk
 by_cases hi : 0 ≤ i ∧ i < ((Cf.sl R.cls k).toNat : Int)
 ·rw [if_pos hi];obtain ⟨s, rfl⟩ := Int.eq_ofNat_of_zero_le hi.1;exact (h.slots k s hk (by omega)).tag
 ·rw [if_neg hi]
  have : Ref.given R.log k i = -1 := given_none R.log k i R.log.length (fun j hj => by
   cases e : (R.log.getD j Ref.Ev.no).gives k i
   ·rfl
   ·exfalso;have h1 := h.log.slot0 j hj;have h2 := h.log.slot1 j hj;simp only [Ref.Ev.gives, Bool.and_eq_true, beq_iff_eq] at e;rw [e.1.2, Int.toNat_natCast] at h2;rw [e.2] at h1 h2;omega)
  unfold Ref.last;rw [this, if_pos (by omega)]
theorem Sim.tagOf {G : GSt} {R : RSt} (h : Sim G R) {k : Nat} (hk : k < R.cls.length) (s : Nat) (draw : Int) :
 PickMath.pick (glast (G.cs.getD k GCls.no).slots s) (glast (G.cs.getD k GCls.no).slots ((s : Int) - 1)) (glast (G.cs.getD k GCls.no).slots ((s : Int) + 1)) draw = Ref.tagOf R.log k s draw := by
 unfold Ref.tagOf;rw [h.last hk, h.last hk, h.last hk]
namespace Cf
theorem inS_uniq {st rest : Int} {cls : List (Int × Int)} (hv : Valid st rest cls) (a : Int) (k s k' s' : Nat) (hk : k < cls.length) (hk' : k' < cls.length) (hs : s < (sl cls k).toNat) (hs' : s' < (sl cls k').toNat)
 (h : inS st cls a k s = true) (h' : inS st cls a k' s' = true) : k = k' ∧ s = s' := by
 have aux : ∀ k s k' s' : Nat, k < cls.length → k' < cls.length → s < (sl cls k).toNat → inS st cls a k s = true → inS st cls a k' s' = true → k < k' → False := by
  intro k s k' s' hk hk' hs h h' hlt;simp only [inS, Bool.and_eq_true, decide_eq_true_eq] at h h';have hb := begin_end hv k s hk (by omega);have hg := hv.g0 k hk;have hg' := hv.g0 k' hk';have h1 := gran_mono hv (k + 1) k' (by omega) (by omega)
  have h2 : (s : Int) * gr cls k + gr cls k ≤ sl cls k * gr cls k := by
   have : ((s : Int) + 1) * gr cls k ≤ sl cls k * gr cls k := Int.mul_le_mul_of_nonneg_right (by omega) (by omega);rw [Int.add_mul] at this; omega
  have h3 : 0 ≤ (s' : Int) * gr cls k' := Int.mul_nonneg (by omega) (by omega);simp only [gran] at h1;unfold begin_ at h h';omega
 rcases Nat.lt_trichotomy k k' with hlt | he | hgt
 ·exact (aux k s k' s' hk hk' hs h h' hlt).elim
 ·subst he;have hg := hv.g0 k hk;have e1 := (inS_iff st cls a k s (by omega)).1 h;have e2 := (inS_iff st cls a k s' (by omega)).1 h';exact ⟨rfl, by omega⟩
 ·exact (aux k' s' k s hk' hk hs' h' h hgt).elim
theorem inS_begin {st rest : Int} {cls : List (Int × Int)} (hv : Valid st rest cls) (k s : Nat) (hk : k < cls.length) : inS st cls (begin_ st cls k s) k s = true := by
 have hg := hv.g0 k hk;simp only [inS, Bool.and_eq_true, decide_eq_true_eq]; omega
theorem slot_found {st rest : Int} {cls : List (Int × Int)} (hv : Valid st rest cls) (a : Int) (k s : Nat) (hk : k < cls.length) (hs : s < (sl cls k).toNat) (h : inS st cls a k s = true) : slot st cls a = ((k : Int), (s : Int)) := by
 rcases slot_bd st cls a with h0 | ⟨i, j, h1, h2, h3, h4⟩
 ·exfalso
  have aux : ∀ f k0, k0 ≤ k → k < k0 + f → (slotFrom st cls a f k0).1 ≠ -1 := by
   intro f
   induction f with
   | zero => intro k0 h1 h2; omega
   | succ f ih =>
     intro k0 h1 h2;simp only [slotFrom]
     by_cases e : 0 ≤ slotIn st cls a k0
     ·rw [if_pos e]; simp
     ·rw [if_neg e]
      by_cases e2 : k0 = k
      ·subst e2;exfalso; apply e
       unfold slotIn
       rcases Int.lt_or_le (Ref.firstFrom (inS st cls a k0) (sl cls k0).toNat 0) 0 with hl | hl
       ·have hlo := Ref.firstFrom_lo (inS st cls a k0) (sl cls k0).toNat 0;have := Ref.firstFrom_no _ _ _ (show Ref.firstFrom (inS st cls a k0) (sl cls k0).toNat 0 = -1 by omega) s (by omega) (by omega);rw [h] at this; cases this
       ·exact hl
      ·exact ih (k0 + 1) (by omega) (by omega)
  exact aux cls.length 0 (by omega) (by omega) (by unfold slot at h0; rw [h0])
 ·obtain ⟨e1, e2⟩ := inS_uniq hv a k s i j hk h2 hs h3 h h4;rw [h1, e1, e2]
end Cf
theorem blockFrom_none (st : Int) (cls : List (Int × Int)) (log : List Ref.Ev) (a t : Int) (f k : Nat) (h : ∀ k' s', k ≤ k' → k' < k + f → s' < (Cf.sl cls k').toNat → Ref.matchB st cls log a t k' s' = false) : Ref.blockFrom st cls log a t f k = (0, 0, 8) := by
 induction f generalizing k with
 | zero => rfl
 | succ f ih =>
   simp only [Ref.blockFrom];have : Ref.blockIn st cls log a t k = -1 := Cf.firstFrom_none _ _ _ (fun j _ hj => h k j (Nat.le_refl _) (by omega) (by omega));rw [this, if_neg (by omega)];exact ih (k + 1) (fun k' s' h1 h2 h3 => h k' s' (by omega) (by omega) h3)
theorem blockFrom_one (st : Int) (cls : List (Int × Int)) (log : List Ref.Ev) (a t : Int) (k s : Nat) (f k0 : Nat) (h1 : k0 ≤ k) (h2 : k < k0 + f) (hs : s < (Cf.sl cls k).toNat) (hm : Ref.matchB st cls log a t k s = true)
 (h : ∀ k' s', k' < k0 + f → s' < (Cf.sl cls k').toNat → Ref.matchB st cls log a t k' s' = true → k' = k ∧ s' = s) : Ref.blockFrom st cls log a t f k0 = if Ref.state log k s = 4 then (0, 0, 9) else ((k : Int), (s : Int), 0) := by
 induction f generalizing k0 with
 | zero => omega
 | succ f ih =>
   simp only [Ref.blockFrom]
   by_cases e : k0 = k
   ·subst e
    have : Ref.blockIn st cls log a t k0 = s := Cf.firstFrom_one _ s _ 0 (by omega) (by omega) hm (fun j _ hj => by
     cases e : Ref.matchB st cls log a t k0 j
     ·rfl
     ·have := (h k0 j (by omega) (by omega) e).2; omega)
    rw [this, if_pos (by omega)]
   ·have : Ref.blockIn st cls log a t k0 = -1 := Cf.firstFrom_none _ _ _ (fun j _ hj => by
     cases e2 : Ref.matchB st cls log a t k0 j
     ·rfl
     ·have := (h k0 j (by omega) (by omega) e2).1; omega)
    rw [this, if_neg (by omega)];exact ih (k0 + 1) (by omega) (by omega) (fun k' s' h3 h4 h5 => h k' s' (by omega) h4 h5)
theorem match_iff (st : Int) (cls : List (Int × Int)) (log : List Ref.Ev) (a t : Int) (k s : Nat) : Ref.matchB st cls log a t k s = true ↔ Cf.begin_ st cls k s = a ∧ Ref.last log k s = t ∧ Ref.state log k s ≠ 2 := by
 simp [Ref.matchB, and_assoc]
theorem Sim.block {G : GSt} {R : RSt} (h : Sim G R) (q : Int) : gblock G R.cls q = Ref.block R.st R.cls R.log q := by
 cases ht : Ref.tameB q
 ·rw [gblock_wild G R.cls q ht]; unfold Ref.block; rw [ht]; rfl
 ·have hb : Ref.block R.st R.cls R.log q = Ref.blockFrom R.st R.cls R.log (q % 72057594037927936) (q / 72057594037927936) R.cls.length 0 := by unfold Ref.block; rw [ht]; rfl
  rw [hb];have hv := h.ok.conf;rw [h.st] at hv
  have key : ∀ k' s', k' < R.cls.length → s' < (Cf.sl R.cls k').toNat → Ref.matchB R.st R.cls R.log (q % 72057594037927936) (q / 72057594037927936) k' s' = true → Cf.slot R.st R.cls (q % 72057594037927936) = ((k' : Int), (s' : Int)) := fun k' s' hk' hs' hm => by
   have hbe := ((match_iff _ _ _ _ _ _ _).1 hm).1;have hi := Cf.inS_begin hv k' s' hk';rw [hbe] at hi;exact Cf.slot_found hv _ k' s' hk' hs' hi
  rcases Cf.slot_bd R.st R.cls (q % 72057594037927936) with hsl | ⟨k, s, hsl, hk, hs, _⟩
  ·rw [gblock_none G R.cls q ht (by rw [h.st]; exact hsl)];refine (blockFrom_none _ _ _ _ _ _ _ (fun k' s' _ h2 h3 => ?_)).symm
   cases e : Ref.matchB R.st R.cls R.log (q % 72057594037927936) (q / 72057594037927936) k' s'
   ·rfl
   ·have := key k' s' (by omega) h3 e;rw [hsl] at this;have := congrArg Prod.fst this;simp at this
  ·rw [gblock_at G R.cls q k s ht (by rw [h.st]; exact hsl), h.st];have hx := h.slots k s hk hs
   have only : ∀ k' s', k' < R.cls.length → s' < (Cf.sl R.cls k').toNat → Ref.matchB R.st R.cls R.log (q % 72057594037927936) (q / 72057594037927936) k' s' = true → k' = k ∧ s' = s := fun k' s' h1 h2 h3 => by
    have := key k' s' h1 h2 h3;rw [hsl] at this;have e1 := congrArg Prod.fst this;have e2 := congrArg Prod.snd this;simp at e1 e2;omega
   cases hm : Ref.matchB R.st R.cls R.log (q % 72057594037927936) (q / 72057594037927936) k s
   ·have hno : Ref.blockFrom R.st R.cls R.log (q % 72057594037927936) (q / 72057594037927936) R.cls.length 0 = (0, 0, 8) := blockFrom_none _ _ _ _ _ _ _ (fun k' s' _ h2 h3 => by
     cases e : Ref.matchB R.st R.cls R.log (q % 72057594037927936) (q / 72057594037927936) k' s'
     ·rfl
     ·obtain ⟨e1, e2⟩ := only k' s' (by omega) h3 e;rw [e1, e2, hm] at e; cases e)
    rw [hno]
    by_cases hbe : Cf.begin_ R.st R.cls k s = q % 72057594037927936
    ·rw [if_neg (by simp [hbe])];unfold gfound;rw [if_pos];rw [hx.st, hx.tag]
     by_cases e2 : Ref.state R.log k s = 2
     ·exact .inl e2
     ·right
      intro e3;have := (match_iff R.st R.cls R.log (q % 72057594037927936) (q / 72057594037927936) k s).2 ⟨hbe, e3, e2⟩;rw [hm] at this; cases this
    ·rw [if_pos hbe]
   ·obtain ⟨m1, m2, m3⟩ := (match_iff _ _ _ _ _ _ _).1 hm;rw [blockFrom_one _ _ _ _ _ k s _ _ (by omega) (by omega) hs hm (fun k' s' h1 h2 h3 => only k' s' (by omega) h2 h3), if_neg (by simp [m1])];unfold gfound;rw [hx.st, hx.tag, if_neg (by simp [m2, m3])]
theorem getD_set (xs : List GSlot) (i j : Nat) (x : GSlot) (hi : i < xs.length) : (xs.set i x).getD j GSlot.no = if j = i then x else xs.getD j GSlot.no := by
 by_cases e : j = i
 ·subst e; rw [if_pos rfl, getD_set_same _ _ _ _ hi]
 ·rw [if_neg e]; simp [List.getD_eq_getElem?_getD, List.getElem?_set_ne (Ne.symm e)]
theorem GOk.with_ {G : GSt} {rest : Int} {cls : List (Int × Int)} (h : GOk G rest cls) (k : Nat) (hk : k < cls.length) (xs : List GSlot) (hl : xs.length = (G.cs.getD k GCls.no).slots.length) (mem : List Int) : GOk (GSt.withSlots ⟨G.st, G.rest, G.cs, mem⟩ k xs) rest cls := by
 have hkl : k < G.cs.length := by rw [h.len]; exact hk
 refine ⟨h.conf, h.rest_, ?_, fun j hj => ?_, fun j hj => ?_, fun j hj => ?_⟩
 ·rw [withSlots_len]; exact h.len
 ·rw [withSlots_begin ⟨G.st, G.rest, G.cs, mem⟩ k j xs hkl]; exact h.bg j hj
 ·rw [withSlots_bytes ⟨G.st, G.rest, G.cs, mem⟩ k j xs hkl]; exact h.by_ j hj
 ·rw [withSlots_getD ⟨G.st, G.rest, G.cs, mem⟩ k j xs hkl]
  split
  ·rename_i e; rw [e]; show (xs.length : Int) = _; rw [hl]; exact h.sl k hk
  ·exact h.sl j hj
theorem LogOk.snoc {R : RSt} (h : LogOk R) (e : Ref.Ev) (hc : 0 ≤ e.cls) (hs0 : 0 ≤ e.slot) (hs1 : e.slot < Cf.sl R.cls e.cls.toNat) (hv : ∀ k s : Nat, e.takes k s = true → 0 ≤ Ref.given R.log k s) : LogOk ⟨R.st, R.rest, R.cls, R.log ++ [e], R.marks⟩ := by
 have hx : ∀ i, i < (R.log ++ [e]).length → (R.log ++ [e]).getD i Ref.Ev.no = e ∨ (i < R.log.length ∧ (R.log ++ [e]).getD i Ref.Ev.no = R.log.getD i Ref.Ev.no) := fun i hi => by
  by_cases e1 : i < R.log.length
  ·exact .inr ⟨e1, Ref.getD_old _ _ _ e1⟩
  ·left
   have : i = R.log.length := by simp at hi; omega
   rw [this, Ref.getD_new]
 refine ⟨fun i hi => ?_, fun i hi => ?_, fun i hi => ?_, fun k s hg => ?_⟩
 ·show 0 ≤ ((R.log ++ [e]).getD i Ref.Ev.no).cls
  rcases hx i hi with e1 | ⟨e1, e2⟩
  ·rw [e1]; exact hc
  ·rw [e2]; exact h.cls0 i e1
 ·show 0 ≤ ((R.log ++ [e]).getD i Ref.Ev.no).slot
  rcases hx i hi with e1 | ⟨e1, e2⟩
  ·rw [e1]; exact hs0
  ·rw [e2]; exact h.slot0 i e1
 ·show ((R.log ++ [e]).getD i Ref.Ev.no).slot < Cf.sl R.cls ((R.log ++ [e]).getD i Ref.Ev.no).cls.toNat
  rcases hx i hi with e1 | ⟨e1, e2⟩
  ·rw [e1]; exact hs1
  ·rw [e2]; exact h.slot1 i e1
 ·change Ref.given (R.log ++ [e]) k s < 0 at hg;show Ref.gone (R.log ++ [e]) k s < 0;rw [Ref.given_snoc] at hg
  cases hgv : e.gives (k : Int) (s : Int)
  ·rw [hgv, if_neg (by decide)] at hg;have h1 := h.vir k s hg;rw [Ref.gone_snoc _ _ _ _ hgv, if_neg (by omega)]
   cases ht : e.takes (k : Int) (s : Int)
   ·simp
   ·have := hv k s ht; omega
  ·rw [hgv, if_pos rfl] at hg; omega
theorem ROk.snoc {R : RSt} (h : ROk R) (e : Ref.Ev) (h0 : 0 ≤ e.size) (h1 : e.size ≤ 8) : ROk ⟨R.st, R.rest, R.cls, R.log ++ [e], R.marks⟩ := by
 have hx : ∀ i, (R.log ++ [e]).getD i Ref.Ev.no = e ∨ (R.log ++ [e]).getD i Ref.Ev.no = R.log.getD i Ref.Ev.no := fun i => by
  by_cases e1 : i < R.log.length
  ·exact .inr (Ref.getD_old _ _ _ e1)
  ·by_cases e2 : i = R.log.length
   ·left; rw [e2, Ref.getD_new]
   ·right
    rw [List.getD_eq_getElem?_getD, List.getD_eq_getElem?_getD, List.getElem?_eq_none (by simp; omega), List.getElem?_eq_none (by omega)]
 refine ⟨h.conf, fun i => ?_, fun i => ?_⟩
 ·show 0 ≤ ((R.log ++ [e]).getD i Ref.Ev.no).size
  rcases hx i with e1 | e1 <;> rw [e1]
  ·exact h0
  ·exact h.size0 i
 ·show ((R.log ++ [e]).getD i Ref.Ev.no).size ≤ 8
  rcases hx i with e1 | e1 <;> rw [e1]
  ·exact h1
  ·exact h.size1 i
theorem Sim.malloc {G : GSt} {R : RSt} (h : Sim G R) (k s : Nat) (hk : k < R.cls.length) (hs : s < (Cf.sl R.cls k).toNat) (t z site : Int) (z0 : 0 ≤ z) (z1 : z ≤ 8) (mem : List Int) (hm : mem.length = G.mem.length) :
 Sim (GSt.withSlots ⟨G.st, G.rest, G.cs, mem⟩ k ((G.cs.getD k GCls.no).slots.set s ⟨3, t, 16 * z, 0, site, 0⟩)) ⟨R.st, R.rest, R.cls, R.log ++ [⟨false, k, s, t, z, site⟩], R.marks⟩ := by
 have hkl : k < G.cs.length := by rw [h.ok.len]; exact hk
 have hsl : s < (G.cs.getD k GCls.no).slots.length := by rw [h.len hk]; exact hs
 have hso : ∀ k' s', slotOf (GSt.withSlots ⟨G.st, G.rest, G.cs, mem⟩ k ((G.cs.getD k GCls.no).slots.set s ⟨3, t, 16 * z, 0, site, 0⟩)) k' s' = if k' = k ∧ s' = s then ⟨3, t, 16 * z, 0, site, 0⟩ else slotOf G k' s' := fun k' s' => by
  rw [slotOf_with ⟨G.st, G.rest, G.cs, mem⟩ k k' s' _ hkl]
  by_cases e : k' = k
  ·subst e;rw [if_pos rfl, getD_set _ _ _ _ hsl]
   by_cases e2 : s' = s
   ·rw [if_pos e2, if_pos ⟨rfl, e2⟩]
   ·rw [if_neg e2, if_neg (fun x => e2 x.2)]; rfl
  ·rw [if_neg e, if_neg (fun x => e x.1)]; rfl
 refine ⟨h.st, by show (mem.length : Int) = _; rw [hm]; exact h.mem, h.log.snoc _ (by simp) (by simp) (by show (s : Int) < Cf.sl R.cls (k : Int).toNat; rw [Int.toNat_natCast]; omega) (fun k' s' ht => by rw [takes_no] at ht; cases ht), h.ok.with_ k hk _ (by simp) mem, h.rok.snoc _ z0 z1, fun k' s' => ?_, fun k' s' hk' hs' => ?_⟩
 ·rw [hso]; split
  ·constructor <;> show _ <;> simp only <;> omega
  ·exact h.bd k' s'
 ·rw [hso]
  by_cases e : k' = k ∧ s' = s
  ·rw [if_pos e, e.1, e.2]; exact SlotSim.given_ k s t z site
  ·rw [if_neg e]
   have hg : (⟨false, (k : Int), (s : Int), t, z, site⟩ : Ref.Ev).gives k' s' = false := by
    cases e2 : (⟨false, (k : Int), (s : Int), t, z, site⟩ : Ref.Ev).gives k' s'
    ·rfl
    ·exact absurd ((gives_eq _ _ _ _ _ _ _).1 e2) e
   exact (h.slots k' s' hk' hs').other _ hg (takes_no _ _ _ _ _ _ _) (frees_no _ _ _ _ _ _)
theorem Sim.free {G : GSt} {R : RSt} (h : Sim G R) (k s : Nat) (hk : k < R.cls.length) (hs : s < (Cf.sl R.cls k).toNat) (h3 : Ref.state R.log k s = 3) (site : Int) :
 Sim (G.withSlots k (freed (G.cs.getD k GCls.no).slots s G.rest site)) ⟨R.st, R.rest, R.cls, R.log ++ [⟨true, k, s, 0, 0, site⟩], R.marks⟩ := by
 have hkl : k < G.cs.length := by rw [h.ok.len]; exact hk
 have hn := h.len hk;have hsl : s < (G.cs.getD k GCls.no).slots.length := by rw [hn]; exact hs
 have hdl := decTo_len (G.cs.getD k GCls.no).slots (G.cs.getD k GCls.no).slots.length;have hre := h.ok.rest_
 have hgv : 0 ≤ Ref.given R.log k s := by
  unfold Ref.state at h3; split at h3 <;> omega
 have hso : ∀ k' s', k' = k → slotOf (G.withSlots k (freed (G.cs.getD k GCls.no).slots s G.rest site)) k' s' = if s' = s then ⟨4, (slotOf G k s).tag, (slotOf G k s).bytes, G.rest, (slotOf G k s).alloc, site⟩ else if s' < (G.cs.getD k GCls.no).slots.length then dec1 (slotOf G k s') else GSlot.no := fun k' s' e => by
  rw [slotOf_with _ k k' s' _ hkl, if_pos e];unfold freed;rw [getD_set _ _ _ _ (by omega)]
  by_cases e2 : s' = s
  ·rw [if_pos e2, if_pos e2]; rfl
  ·rw [if_neg e2, if_neg e2]
   by_cases e3 : s' < (G.cs.getD k GCls.no).slots.length
   ·rw [if_pos e3, decTo_getD _ _ _ e3, if_pos e3]; rfl
   ·rw [if_neg e3, List.getD_eq_getElem?_getD, List.getElem?_eq_none (by omega)]; rfl
 refine ⟨h.st, h.mem, h.log.snoc _ (by simp) (by simp) (by show (s : Int) < Cf.sl R.cls (k : Int).toNat; rw [Int.toNat_natCast]; omega) (fun k' s' ht => by obtain ⟨e1, e2⟩ := (takes_eq _ _ _ _ _ _ _).1 ht; rw [e1, e2]; exact hgv), h.ok.with_ k hk _ (freed_len _ _ _ _) G.mem, h.rok.snoc _ (by simp) (by simp), fun k' s' => ?_, fun k' s' hk' hs' => ?_⟩
 ·by_cases e : k' = k
  ·rw [hso k' s' e]
   split
   ·exact h.bd k s
   ·split
    ·have := h.bd k s';unfold dec1; split <;> exact this
    ·exact ⟨by simp [GSlot.no], by simp [GSlot.no]⟩
  ·rw [slotOf_with _ k k' s' _ hkl, if_neg e]; exact h.bd k' s'
 ·by_cases e : k' = k
  ·subst e;rw [hso k' s' rfl];change s' < (Cf.sl R.cls k').toNat at hs'
   by_cases e2 : s' = s
   ·subst e2;rw [if_pos rfl, hre];exact (h.slots k' s' hk' hs').taken h3 h.ok.conf.re0 site
   ·rw [if_neg e2, if_pos (by omega)];exact (h.slots k' s' hk' hs').nearer s e2 site
  ·rw [slotOf_with _ k k' s' _ hkl, if_neg e]
   have ht : (⟨true, (k : Int), (s : Int), 0, 0, site⟩ : Ref.Ev).takes k' s' = false := by
    cases e2 : (⟨true, (k : Int), (s : Int), 0, 0, site⟩ : Ref.Ev).takes k' s'
    ·rfl
    ·exact absurd ((takes_eq _ _ _ _ _ _ _).1 e2).1 e
   exact (h.slots k' s' hk' hs').other _ (gives_no _ _ _ _ _ _ _) ht (by rw [frees_eq]; simpa using e)
theorem Sim.rest_le {G : GSt} {R : RSt} (h : Sim G R) {k : Nat} (hk : k < R.cls.length) (j : Nat) (hj : j < (G.cs.getD k GCls.no).slots.length) : ((G.cs.getD k GCls.no).slots.getD j GSlot.no).rest ≤ 16 := by
 have hx := (h.slots k j hk (by rw [← h.len hk]; exact hj)).rest;have h1 := h.ok.conf.re1;change (slotOf G k j).rest ≤ 16;rw [hx]; split <;> omega
def mOut (R : RSt) (size draw : Int) : Int × Int :=
 if size < 1 ∨ Ref.cls_ R.cls size = R.cls.length then (0, 3)
 else if Ref.first R.log R.rest R.cls (Ref.cls_ R.cls size) < 0 then (0, 4)
 else ((Ref.tagOf R.log (Ref.cls_ R.cls size) (Ref.first R.log R.rest R.cls (Ref.cls_ R.cls size)).toNat draw : Int) * 72057594037927936 + Cf.begin_ R.st R.cls (Ref.cls_ R.cls size) ((Ref.first R.log R.rest R.cls (Ref.cls_ R.cls size)).toNat : Int), 0)
def mEv (R : RSt) (size draw site : Int) : Ref.Ev :=
 ⟨false, (Ref.cls_ R.cls size : Int), ((Ref.first R.log R.rest R.cls (Ref.cls_ R.cls size)).toNat : Int), (Ref.tagOf R.log (Ref.cls_ R.cls size) (Ref.first R.log R.rest R.cls (Ref.cls_ R.cls size)).toNat draw : Int), Ref.gsz size, site⟩
def mR (R : RSt) (size draw site : Int) : RSt := if (mOut R size draw).2 = 0 then ⟨R.st, R.rest, R.cls, R.log ++ [mEv R size draw site], R.marks⟩ else R
def mG (G : GSt) (R : RSt) (size draw site : Int) : GSt :=
 if (mOut R size draw).2 = 0 then
  GSt.withSlots ⟨G.st, G.rest, G.cs, clearTo G.mem (Cf.begin_ G.st R.cls (Ref.cls_ R.cls size) ((Ref.first R.log R.rest R.cls (Ref.cls_ R.cls size)).toNat : Int)).toNat (16 * Ref.gsz size).toNat⟩ (Ref.cls_ R.cls size)
   ((G.cs.getD (Ref.cls_ R.cls size) GCls.no).slots.set (Ref.first R.log R.rest R.cls (Ref.cls_ R.cls size)).toNat ⟨3, (Ref.tagOf R.log (Ref.cls_ R.cls size) (Ref.first R.log R.rest R.cls (Ref.cls_ R.cls size)).toNat draw : Int), 16 * Ref.gsz size, 0, site, 0⟩)
 else G
theorem mOut_cases (R : RSt) (_ho : ROk R) (size draw : Int) :
 ((size < 1 ∨ Ref.cls_ R.cls size = R.cls.length) ∧ mOut R size draw = (0, 3)) ∨
 (∃ k, 1 ≤ size ∧ Ref.cls_ R.cls size = k ∧ k < R.cls.length ∧ Ref.first R.log R.rest R.cls k < 0 ∧ mOut R size draw = (0, 4)) ∨
 (∃ k s : Nat, 1 ≤ size ∧ Ref.cls_ R.cls size = k ∧ k < R.cls.length ∧ Ref.first R.log R.rest R.cls k = (s : Int) ∧ s < (Cf.sl R.cls k).toNat ∧ size ≤ 16 * Cf.gr R.cls k ∧
   mOut R size draw = ((Ref.tagOf R.log k s draw : Int) * 72057594037927936 + Cf.begin_ R.st R.cls k s, 0)) := by
 unfold mOut
 by_cases h : size < 1 ∨ Ref.cls_ R.cls size = R.cls.length
 ·exact .inl ⟨h, if_pos h⟩
 ·rw [if_neg h];have hle := Ref.cls_le R.cls size
  right
  by_cases h2 : Ref.first R.log R.rest R.cls (Ref.cls_ R.cls size) < 0
  ·exact .inl ⟨_, by omega, rfl, by omega, h2, if_pos h2⟩
  ·right
   obtain ⟨s, hs⟩ := Int.eq_ofNat_of_zero_le (show 0 ≤ Ref.first R.log R.rest R.cls (Ref.cls_ R.cls size) by omega);refine ⟨Ref.cls_ R.cls size, s, by omega, rfl, by omega, hs, ?_, Ref.cls_at R.cls size (by omega), ?_⟩
   ·have := Ref.firstFrom_hi (Ref.openB R.log R.rest (Ref.cls_ R.cls size)) (Cf.sl R.cls (Ref.cls_ R.cls size)).toNat 0;unfold Ref.first at hs; omega
   ·rw [if_neg h2, hs, Int.toNat_natCast]
theorem mR_ok {R : RSt} {size draw site : Int} {k s : Nat} (hk : Ref.cls_ R.cls size = k) (hf : Ref.first R.log R.rest R.cls k = (s : Int)) (hm : (mOut R size draw).2 = 0) :
 mR R size draw site = ⟨R.st, R.rest, R.cls, R.log ++ [⟨false, k, s, Ref.tagOf R.log k s draw, Ref.gsz size, site⟩], R.marks⟩ := by
 unfold mR mEv; rw [if_pos hm, hk, hf, Int.toNat_natCast]
theorem mG_ok {G : GSt} {R : RSt} {size draw site : Int} {k s : Nat} (hk : Ref.cls_ R.cls size = k) (hf : Ref.first R.log R.rest R.cls k = (s : Int)) (hm : (mOut R size draw).2 = 0) :
 mG G R size draw site = GSt.withSlots ⟨G.st, G.rest, G.cs, clearTo G.mem (Cf.begin_ G.st R.cls k s).toNat (16 * Ref.gsz size).toNat⟩ k ((G.cs.getD k GCls.no).slots.set s ⟨3, (Ref.tagOf R.log k s draw : Int), 16 * Ref.gsz size, 0, site, 0⟩) := by
 unfold mG; rw [if_pos hm, hk, hf, Int.toNat_natCast]
theorem gsz_bd {size g : Int} (h1 : 1 ≤ size) (h2 : size ≤ 16 * g) (h3 : g ≤ 8) : 0 ≤ Ref.gsz size ∧ Ref.gsz size ≤ 8 := by unfold Ref.gsz; omega
theorem sim_malloc {G : GSt} {R : RSt} (h : Sim G R) (size draw site : Int) : Sim (mG G R size draw site) (mR R size draw site) := by
 rcases mOut_cases R h.rok size draw with ⟨_, hm⟩ | ⟨k, _, _, _, _, hm⟩ | ⟨k, s, h1, hk, hkl, hf, hs, hz, hm⟩
 ·unfold mG mR; rw [hm]; exact h
 ·unfold mG mR; rw [hm]; exact h
 ·rw [mG_ok hk hf (by rw [hm]), mR_ok hk hf (by rw [hm])];have hg := h.ok.conf.g1 k hkl;have hb := gsz_bd h1 hz hg;exact h.malloc k s hkl hs _ _ site hb.1 hb.2 _ (clearTo_len _ _ _)
theorem mOut_bd {R : RSt} (ho : ROk R) (size draw : Int) : 0 ≤ (mOut R size draw).1 ∧ (mOut R size draw).1 ≤ 1152921504606846976 := by
 rcases mOut_cases R ho size draw with ⟨_, hm⟩ | ⟨k, _, _, _, _, hm⟩ | ⟨k, s, h1, hk, hkl, hf, hs, hz, hm⟩
 ·rw [hm]; simp
 ·rw [hm]; simp
 ·rw [hm];have hs1 := ho.conf.s1 k hkl;have hb := Cf.begin_bd ho.conf k hkl s (by omega) (by omega);have t2 := PickMath.pick_hi (Ref.last R.log k s) (Ref.last R.log k ((s : Int) - 1)) (Ref.last R.log k ((s : Int) + 1)) draw;change Ref.tagOf R.log k s draw ≤ 14 at t2;show 0 ≤ (Ref.tagOf R.log k s draw : Int) * 72057594037927936 + Cf.begin_ R.st R.cls k s ∧ (Ref.tagOf R.log k s draw : Int) * 72057594037927936 + Cf.begin_ R.st R.cls k s ≤ 1152921504606846976;omega
theorem mG_foot {G : GSt} {R : RSt} (h : Sim G R) (size draw site : Int) (p : Nat) (gc : Value) (bb b : Nat) : GFoot p gc bb (mG G R size draw site) b ↔ GFoot p gc bb G b := by
 rcases mOut_cases R h.rok size draw with ⟨_, hm⟩ | ⟨k, _, _, _, _, hm⟩ | ⟨k, s, h1, hk, hkl, hf, hs, hz, hm⟩
 ·unfold mG; rw [hm]; exact Iff.rfl
 ·unfold mG; rw [hm]; exact Iff.rfl
 ·rw [mG_ok hk hf (by rw [hm])];have hkl2 : k < G.cs.length := by rw [h.ok.len]; exact hkl
  exact (withSlots_foot ⟨G.st, G.rest, G.cs, clearTo G.mem (Cf.begin_ G.st R.cls k s).toNat (16 * Ref.gsz size).toNat⟩ k _ hkl2 p gc bb b).trans Iff.rfl
theorem gmalloc_all (p : Nat) (gc : Value) (bb : Nat) (G : GSt) (R : RSt) (size draw site : Int) (w : World) (h : GRep w p gc bb G) (hs : Sim G R) :
 Calls Tryz.prog 110 #[.pointer (some ⟨p, 0, none⟩), .int .i64 size, .int .i64 draw, .int .i64 site] w fun e w' => e = .returned (.tuple #[.int .i64 (mOut R size draw).1, .int .i64 (mOut R size draw).2]) ∧
  GRep w' p gc bb (mG G R size draw site) ∧ Kept w w' (GFoot p gc bb G) := by
 rcases mOut_cases R hs.rok size draw with ⟨hc, hm⟩ | ⟨k, h1, hk, hkl, hf, hm⟩ | ⟨k, s, h1, hk, hkl, hf, hsl, hz, hm⟩
 ·refine (gmalloc_size p gc bb G R.rest R.cls size draw site w h hs.ok (if_pos hc)).mono ?_;rintro e w' ⟨rfl, rfl⟩;rw [hm];exact ⟨rfl, by unfold mG; rw [hm]; exact h, Kept.same _ _⟩
 ·refine (gmalloc_full p gc bb G R.rest R.cls size draw site k w h hs.ok (by unfold gcls; rw [if_neg (by omega), hk]) hkl (by rw [hs.first hkl]; exact hf)).mono ?_;rintro e w' ⟨rfl, rfl⟩;rw [hm];exact ⟨rfl, by unfold mG; rw [hm]; exact h, Kept.same _ _⟩
 ·have hkl2 : k < G.cs.length := by rw [hs.ok.len]; exact hkl
  refine (gmalloc_ok p gc bb G R.rest R.cls size draw site k s (Ref.tagOf R.log k s draw) w h hs.ok hs.mem h1 hz (by unfold gcls; rw [if_neg (by omega), hk]) hkl (by rw [hs.len hkl]; exact hsl) (by rw [hs.first hkl]; exact hf) (hs.tagOf hkl s draw)).mono ?_;rintro e w' ⟨rfl, hG, hK⟩;rw [hm, hs.st];refine ⟨rfl, by rw [mG_ok hk hf (by rw [hm])]; exact hG, hK.mono fun b _ hb => ?_⟩
  rcases hb with hb | hb
  ·exact .inr (.inr (.inl hb))
  ·exact .inr (.inr (.inr ⟨k, hkl2, hb⟩))
def fOut (R : RSt) (q : Int) : Int := if q = 0 then 0 else (Ref.block R.st R.cls R.log q).2.2
def fDoes (R : RSt) (q : Int) : Prop := q ≠ 0 ∧ (Ref.block R.st R.cls R.log q).2.2 = 0
theorem block_cases (st : Int) (cls : List (Int × Int)) (log : List Ref.Ev) (q : Int) : (Ref.block st cls log q).2.2 ≠ 0 ∨ ∃ k s : Nat, Ref.block st cls log q = ((k : Int), (s : Int), 0) ∧ k < cls.length ∧ s < (Cf.sl cls k).toNat ∧ Ref.state log k s = 3 := by
 unfold Ref.block
 cases ht : Ref.tameB q
 ·left; simp
 ·rw [if_pos rfl];generalize q % Ref.U = a;generalize q / Ref.U = t
  have aux : ∀ f k, k + f ≤ cls.length → (Ref.blockFrom st cls log a t f k).2.2 ≠ 0 ∨ ∃ k' s : Nat, Ref.blockFrom st cls log a t f k = ((k' : Int), (s : Int), 0) ∧ k' < cls.length ∧ s < (Cf.sl cls k').toNat ∧ Ref.state log k' s = 3 := by
   intro f
   induction f with
   | zero => intro k _; left; simp [Ref.blockFrom]
   | succ f ih =>
     intro k hk;simp only [Ref.blockFrom]
     by_cases h0 : 0 ≤ Ref.blockIn st cls log a t k
     ·rw [if_pos h0];obtain ⟨s, hs⟩ := Int.eq_ofNat_of_zero_le h0;have hm := Ref.firstFrom_at _ _ _ h0;have hhi := Ref.firstFrom_hi (Ref.matchB st cls log a t k) (Cf.sl cls k).toNat 0;change 0 ≤ Ref.blockIn st cls log a t k ∧ Ref.matchB st cls log a t k (Ref.blockIn st cls log a t k).toNat = true at hm;change Ref.blockIn st cls log a t k < _ at hhi;rw [hs] at hm hhi ⊢;rw [Int.toNat_natCast] at hm
      by_cases h4 : Ref.state log k s = 4
      ·rw [if_pos h4]; left; simp
      ·rw [if_neg h4]
       right
       refine ⟨k, s, rfl, by omega, by omega, ?_⟩;have h2 := ((match_iff _ _ _ _ _ _ _).1 hm.2).2.2;unfold Ref.state at h2 h4 ⊢
       split
       ·rename_i hh; rw [if_pos hh] at h2; exact absurd rfl h2
       ·rename_i hh
        rw [if_neg hh] at h4
        split
        ·rfl
        ·rename_i hh2; rw [if_neg hh2] at h4; exact absurd rfl h4
     ·rw [if_neg h0]; exact ih (k + 1) (by omega)
  exact aux cls.length 0 (by omega)
theorem gfree_all (p : Nat) (gc : Value) (bb : Nat) (G : GSt) (R : RSt) (q site : Int) (w : World) (h : GRep w p gc bb G) (hs : Sim G R) (q1 : q ≤ 9223372036854775807) :
 Calls Tryz.prog 111 #[.pointer (some ⟨p, 0, none⟩), .int .i64 q, .int .i64 site] w fun e w' => e = .returned (.int .i64 (fOut R q)) ∧ Kept w w' (GFoot p gc bb G) ∧
  ((¬ fDoes R q ∧ GRep w' p gc bb G) ∨ ∃ k s : Nat, fDoes R q ∧ Ref.block R.st R.cls R.log q = ((k : Int), (s : Int), 0) ∧ k < R.cls.length ∧ s < (Cf.sl R.cls k).toNat ∧ Ref.state R.log k s = 3 ∧ GRep w' p gc bb (G.withSlots k (freed (G.cs.getD k GCls.no).slots s G.rest site))) := by
 by_cases hq : q = 0
 ·subst hq;refine (gfree_none p site w).mono ?_;rintro e w' ⟨rfl, rfl⟩;exact ⟨rfl, Kept.same _ _, .inl ⟨fun x => x.1 rfl, h⟩⟩
 ·have hfo : fOut R q = (Ref.block R.st R.cls R.log q).2.2 := if_neg hq
  rcases block_cases R.st R.cls R.log q with he | ⟨k, s, he, hk, hsl, h3⟩
  ·refine (gfree_err p gc bb G R.rest R.cls q site w h hs.ok q1 hq (by rw [hs.block]; exact he)).mono ?_;rintro e w' ⟨rfl, hb⟩;rw [hs.block, hfo];exact ⟨rfl, Kept.of_below hb _, .inl ⟨fun x => he x.2, h.below hb⟩⟩
  ·have hkl2 : k < G.cs.length := by rw [hs.ok.len]; exact hk
   refine (gfree_ok p gc bb G R.rest R.cls q site k s w h hs.ok q1 hq (by rw [hs.block]; exact he) hk (by rw [hs.len hk]; exact hsl) (fun j hj => hs.rest_le hk j hj)).mono ?_;rintro e w' ⟨rfl, hG, hK⟩;rw [hfo, he];exact ⟨rfl, hK.mono fun b _ hb => .inr (.inr (.inr ⟨k, hkl2, hb⟩)), .inr ⟨k, s, ⟨hq, by rw [he]⟩, rfl, hk, hsl, h3, hG⟩⟩
end Go.Proofs.YtjikemhmnkckcabGreat
