import Derived.Test.YtjikemhmnkckcaaJ15
import Derived.Test.YtjikemhmnkckcaaJ22
namespace Go.Proofs.Ytjikemhmnkckcaa
open Go.RowKit

theorem slotOf_with (G : GSt) (k j s : Nat) (xs : List GSlot) (hk : k < G.cs.length) : slotOf (G.withSlots k xs) j s = if j = k then xs.getD s GSlot.no else slotOf G j s := by
  unfold slotOf
  rw [withSlots_getD G k j xs hk]
  split <;> rfl
theorem slotOf_mem (G : GSt) (mem : List Int) (k s : Nat) : slotOf ⟨G.st, G.rest, G.cs, mem⟩ k s = slotOf G k s := rfl

theorem gives_eq (t z si : Int) (k s k' s' : Nat) : (⟨false, (k : Int), (s : Int), t, z, si⟩ : Ref.Ev).gives k' s' = true ↔ k' = k ∧ s' = s := by
  simp [Ref.Ev.gives]; omega
theorem takes_eq (t z si : Int) (k s k' s' : Nat) : (⟨true, (k : Int), (s : Int), t, z, si⟩ : Ref.Ev).takes k' s' = true ↔ k' = k ∧ s' = s := by
  simp [Ref.Ev.takes]; omega
theorem takes_no (t z si : Int) (k s k' s' : Int) : (⟨false, k, s, t, z, si⟩ : Ref.Ev).takes k' s' = false := by simp [Ref.Ev.takes]
theorem gives_no (t z si : Int) (k s k' s' : Int) : (⟨true, k, s, t, z, si⟩ : Ref.Ev).gives k' s' = false := by simp [Ref.Ev.gives]
theorem frees_no (t z si : Int) (k s k' : Int) : (⟨false, k, s, t, z, si⟩ : Ref.Ev).frees k' = false := by simp [Ref.Ev.frees]
theorem frees_eq (t z si : Int) (k s k' : Nat) : (⟨true, (k : Int), (s : Int), t, z, si⟩ : Ref.Ev).frees k' = decide (k' = k) := by
  rw [Bool.eq_iff_iff]; simp [Ref.Ev.frees]; omega

/-- a slot of which the new event says nothing, in a class of which it says nothing -/
theorem SlotSim.other {log : List Ref.Ev} {rest : Int} {k s : Nat} {x : GSlot} (h : SlotSim log rest k s x) (e : Ref.Ev) (hg : e.gives k s = false) (ht : e.takes k s = false) (hf : e.frees k = false) : SlotSim (log ++ [e]) rest k s x := by
  have g2 := Ref.given_hi log (k : Int) (s : Int)
  have o2 := Ref.gone_hi log (k : Int) (s : Int)
  have e1 : Ref.given (log ++ [e]) k s = Ref.given log k s := by rw [Ref.given_snoc, if_neg (by rw [hg]; decide)]
  have e2 : Ref.gone (log ++ [e]) k s = Ref.gone log k s := by
    rw [Ref.gone_snoc log e k s hg, if_neg (c := e.takes (k : Int) (s : Int) = true) (by rw [ht]; decide)]
    have := Ref.gone_lo log (k : Int) (s : Int)
    split <;> omega
  have e3 : Ref.state (log ++ [e]) k s = Ref.state log k s := by unfold Ref.state; rw [e1, e2]
  have eg : 0 ≤ Ref.given log k s → (log ++ [e]).getD (Ref.given log k s).toNat Ref.Ev.no = log.getD (Ref.given log k s).toNat Ref.Ev.no := fun h0 => Ref.getD_old log e _ (by omega)
  refine ⟨by rw [e3]; exact h.st, ?_, ?_, ?_, ?_, ?_⟩
  · rw [h.tag]; unfold Ref.last; rw [e1]
    by_cases h0 : Ref.given log k s < 0
    · rw [if_pos h0, if_pos h0]
    · rw [if_neg h0, if_neg h0, eg (by omega)]
  · rw [e1]; intro h0; rw [eg h0]; exact h.bytes h0
  · rw [h.rest, e3]
    by_cases h4 : Ref.state log k s = 4
    · rw [if_pos h4, if_pos h4]
      have hgo : 0 ≤ Ref.gone log k s := by unfold Ref.state at h4; split at h4; · omega
                                            split at h4 <;> omega
      rw [Ref.since_old log e k s hg hgo, hf]; simp
    · rw [if_neg h4, if_neg h4]
  · rw [h.alloc, e1]
    by_cases h0 : Ref.given log k s < 0
    · rw [if_pos h0, if_pos h0]
    · rw [if_neg h0, if_neg h0, eg (by omega)]
  · rw [h.gone, e3, e2]
    by_cases h4 : Ref.state log k s = 4
    · rw [if_pos h4, if_pos h4]
      have hgo : 0 ≤ Ref.gone log k s := by unfold Ref.state at h4; split at h4; · omega
                                            split at h4 <;> omega
      rw [Ref.getD_old log e _ (by omega)]
    · rw [if_neg h4, if_neg h4]

/-- the slot that is given out -/
theorem SlotSim.given_ {log : List Ref.Ev} {rest : Int} (k s : Nat) (t z si : Int) : SlotSim (log ++ [⟨false, k, s, t, z, si⟩]) rest k s ⟨3, t, 16 * z, 0, si, 0⟩ := by
  have hg : (⟨false, (k : Int), (s : Int), t, z, si⟩ : Ref.Ev).gives k s = true := (gives_eq _ _ _ _ _ _ _).2 ⟨rfl, rfl⟩
  have e1 : Ref.given (log ++ [⟨false, (k : Int), (s : Int), t, z, si⟩]) k s = (log.length : Int) := by rw [Ref.given_snoc, if_pos hg]
  have e2 := Ref.gone_gives log _ k s hg
  have e3 : Ref.state (log ++ [⟨false, (k : Int), (s : Int), t, z, si⟩]) k s = 3 := by
    unfold Ref.state; rw [e1, e2, if_neg (by omega), if_pos (by omega)]
  have eg : (log ++ [(⟨false, (k : Int), (s : Int), t, z, si⟩ : Ref.Ev)]).getD ((log.length : Int)).toNat Ref.Ev.no = ⟨false, k, s, t, z, si⟩ := by rw [Int.toNat_natCast]; exact Ref.getD_new _ _
  refine ⟨e3.symm, ?_, ?_, ?_, ?_, ?_⟩
  · unfold Ref.last; rw [e1, if_neg (by omega), eg]
  · intro _; rw [e1, eg]
  · rw [e3]; rfl
  · rw [e1, if_neg (by omega), eg]
  · rw [e3]; rfl

/-- the slot that is taken back -/
theorem SlotSim.taken {log : List Ref.Ev} {rest : Int} {k s : Nat} {x : GSlot} (h : SlotSim log rest k s x) (h3 : Ref.state log k s = 3) (hr : 0 ≤ rest) (si : Int) : SlotSim (log ++ [⟨true, k, s, 0, 0, si⟩]) rest k s ⟨4, x.tag, x.bytes, rest, x.alloc, si⟩ := by
  have g2 := Ref.given_hi log (k : Int) (s : Int)
  have hg := gives_no 0 0 si (k : Int) s k s
  have ht : (⟨true, (k : Int), (s : Int), 0, 0, si⟩ : Ref.Ev).takes k s = true := (takes_eq _ _ _ _ _ _ _).2 ⟨rfl, rfl⟩
  have hgv : 0 ≤ Ref.given log k s ∧ Ref.gone log k s < 0 := by
    unfold Ref.state at h3; split at h3
    · omega
    · split at h3
      · omega
      · omega
  have e1 : Ref.given (log ++ [⟨true, (k : Int), (s : Int), 0, 0, si⟩]) k s = Ref.given log k s := by rw [Ref.given_snoc, if_neg (by rw [hg]; decide)]
  have e2 : Ref.gone (log ++ [⟨true, (k : Int), (s : Int), 0, 0, si⟩]) k s = (log.length : Int) := by
    rw [Ref.gone_snoc log _ k s hg, if_neg (by omega), if_pos ht]
  have e3 : Ref.state (log ++ [⟨true, (k : Int), (s : Int), 0, 0, si⟩]) k s = 4 := by
    unfold Ref.state; rw [e1, e2, if_neg (by omega), if_neg (by omega)]
  have eg := Ref.getD_old log ⟨true, (k : Int), (s : Int), 0, 0, si⟩ (Ref.given log k s).toNat (by omega)
  refine ⟨e3.symm, ?_, ?_, ?_, ?_, ?_⟩
  · show x.tag = _; rw [h.tag]; unfold Ref.last; rw [e1, if_neg (by omega), if_neg (by omega), eg]
  · show _ → x.bytes = _; rw [e1]; intro h0; rw [eg]; exact h.bytes h0
  · show rest = _; rw [e3, if_pos rfl, Ref.since_new log _ k s e2]; simp; omega
  · show x.alloc = _; rw [h.alloc, e1, eg]
  · show si = _; rw [e3, if_pos rfl, e2, Int.toNat_natCast, Ref.getD_new]

/-- another slot of the class in which a slot is taken back -/
theorem SlotSim.nearer {log : List Ref.Ev} {rest : Int} {k s : Nat} {x : GSlot} (h : SlotSim log rest k s x) (s0 : Nat) (hs : s ≠ s0) (si : Int) : SlotSim (log ++ [⟨true, k, s0, 0, 0, si⟩]) rest k s (dec1 x) := by
  have g2 := Ref.given_hi log (k : Int) (s : Int)
  have o2 := Ref.gone_hi log (k : Int) (s : Int)
  have hg := gives_no 0 0 si (k : Int) s0 k s
  have ht : (⟨true, (k : Int), (s0 : Int), 0, 0, si⟩ : Ref.Ev).takes k s = false := by
    cases e : (⟨true, (k : Int), (s0 : Int), 0, 0, si⟩ : Ref.Ev).takes k s
    · rfl
    · exact absurd ((takes_eq _ _ _ _ _ _ _).1 e).2 hs
  have hf : (⟨true, (k : Int), (s0 : Int), 0, 0, si⟩ : Ref.Ev).frees k = true := by rw [frees_eq]; simp
  have e1 : Ref.given (log ++ [⟨true, (k : Int), (s0 : Int), 0, 0, si⟩]) k s = Ref.given log k s := by rw [Ref.given_snoc, if_neg (by rw [hg]; decide)]
  have e2 : Ref.gone (log ++ [⟨true, (k : Int), (s0 : Int), 0, 0, si⟩]) k s = Ref.gone log k s := by
    rw [Ref.gone_snoc log _ k s hg, if_neg (c := Ref.Ev.takes _ (k : Int) (s : Int) = true) (by rw [ht]; decide)]
    have := Ref.gone_lo log (k : Int) (s : Int)
    split <;> omega
  have e3 : Ref.state (log ++ [⟨true, (k : Int), (s0 : Int), 0, 0, si⟩]) k s = Ref.state log k s := by unfold Ref.state; rw [e1, e2]
  have eg : 0 ≤ Ref.given log k s → (log ++ [(⟨true, (k : Int), (s0 : Int), 0, 0, si⟩ : Ref.Ev)]).getD (Ref.given log k s).toNat Ref.Ev.no = log.getD (Ref.given log k s).toNat Ref.Ev.no := fun h0 => Ref.getD_old log _ _ (by omega)
  have hd : (dec1 x).state = x.state ∧ (dec1 x).tag = x.tag ∧ (dec1 x).bytes = x.bytes ∧ (dec1 x).alloc = x.alloc ∧ (dec1 x).gone = x.gone ∧ (dec1 x).rest = if 0 < x.rest then x.rest - 1 else x.rest := by
    unfold dec1; split <;> exact ⟨rfl, rfl, rfl, rfl, rfl, rfl⟩
  refine ⟨by rw [e3, hd.1]; exact h.st, ?_, ?_, ?_, ?_, ?_⟩
  · rw [hd.2.1, h.tag]; unfold Ref.last; rw [e1]
    by_cases h0 : Ref.given log k s < 0
    · rw [if_pos h0, if_pos h0]
    · rw [if_neg h0, if_neg h0, eg (by omega)]
  · rw [hd.2.2.1, e1]; intro h0; rw [eg h0]; exact h.bytes h0
  · rw [hd.2.2.2.2.2, h.rest, e3]
    by_cases h4 : Ref.state log k s = 4
    · rw [if_pos h4, if_pos h4]
      have hgo : 0 ≤ Ref.gone log k s := by unfold Ref.state at h4; split at h4; · omega
                                            split at h4 <;> omega
      rw [Ref.since_old log _ k s hg hgo, hf, if_pos rfl]
      split <;> omega
    · rw [if_neg h4, if_neg h4]; rfl
  · rw [hd.2.2.2.1, h.alloc, e1]
    by_cases h0 : Ref.given log k s < 0
    · rw [if_pos h0, if_pos h0]
    · rw [if_neg h0, if_neg h0, eg (by omega)]
  · rw [hd.2.2.2.2.1, h.gone, e3, e2]
    by_cases h4 : Ref.state log k s = 4
    · rw [if_pos h4, if_pos h4]
      have hgo : 0 ≤ Ref.gone log k s := by unfold Ref.state at h4; split at h4; · omega
                                            split at h4 <;> omega
      rw [Ref.getD_old log _ _ (by omega)]
    · rw [if_neg h4, if_neg h4]
end Go.Proofs.Ytjikemhmnkckcaa
