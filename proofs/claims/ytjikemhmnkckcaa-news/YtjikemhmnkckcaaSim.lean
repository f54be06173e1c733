import Derived.Test.YtjikemhmnkckcaaCodeTag2
import Derived.Test.YtjikemhmnkckcaaRefNew
namespace Go.Proofs.Ytjikemhmnkckcaa
open Go.RowKit

/-- a slot of the program, and what the document's list says of it -/
structure SlotSim (log : List Ref.Ev) (rest : Int) (k s : Nat) (x : GSlot) : Prop where
  st : x.state = Ref.state log k s
  tag : x.tag = Ref.last log k s
  bytes : 0 ≤ Ref.given log k s → x.bytes = 16 * (log.getD (Ref.given log k s).toNat Ref.Ev.no).size
  rest : x.rest = if Ref.state log k s = 4 then max 0 (rest - Ref.since log k s) else 0
  alloc : x.alloc = if Ref.given log k s < 0 then 0 else (log.getD (Ref.given log k s).toNat Ref.Ev.no).site
  gone : x.gone = if Ref.state log k s = 4 then (log.getD (Ref.gone log k s).toNat Ref.Ev.no).site else 0

/-- the events speak of slots that there are; nothing is taken back that was not given out -/
structure LogOk (R : RSt) : Prop where
  cls0 : ∀ i, i < R.log.length → 0 ≤ (R.log.getD i Ref.Ev.no).cls
  slot0 : ∀ i, i < R.log.length → 0 ≤ (R.log.getD i Ref.Ev.no).slot
  slot1 : ∀ i, i < R.log.length → (R.log.getD i Ref.Ev.no).slot < Cf.sl R.cls (R.log.getD i Ref.Ev.no).cls.toNat
  vir : ∀ k s : Nat, Ref.given R.log k s < 0 → Ref.gone R.log k s < 0

structure Sim (G : GSt) (R : RSt) : Prop where
  st : G.st = R.st
  mem : (G.mem.length : Int) = 16 * Cf.gran G.st R.cls R.cls.length
  log : LogOk R
  ok : GOk G R.rest R.cls
  rok : ROk R
  bd : GBd G
  slots : ∀ k s, k < R.cls.length → s < (Cf.sl R.cls k).toNat → SlotSim R.log R.rest k s (slotOf G k s)

theorem Sim.tag {G : GSt} {R : RSt} (h : Sim G R) (addr : Int) : gtag G R.cls addr = Cf.tag R.st R.cls R.log addr := by
  unfold gtag Cf.tag
  rw [h.st]
  by_cases h1 : 16 ≤ addr ∧ addr < 16 * (1 + R.st)
  · rw [if_pos h1, if_pos h1]
  · rw [if_neg h1, if_neg h1]
    rcases Cf.slot_bd R.st R.cls addr with hsl | ⟨k, s, hsl, hk, hs, _⟩
    · rw [hsl]; rfl
    · rw [hsl]
      have hx := h.slots k s hk hs
      have hk0 : ¬ ((k : Int) < 0) := by omega
      simp only [Int.toNat_natCast]
      rw [if_neg hk0, if_neg hk0]
      by_cases h3 : Ref.state R.log k s = 3
      · have hg : 0 ≤ Ref.given R.log k s := by
          unfold Ref.state at h3; split at h3
          · omega
          · omega
        rw [if_neg (c := Ref.state R.log k s ≠ 3) (by simp [h3]), hx.st, hx.bytes hg, hx.tag]
        by_cases h4 : Cf.begin_ R.st R.cls k s + 16 * (R.log.getD (Ref.given R.log k s).toNat Ref.Ev.no).size ≤ addr
        · rw [if_pos h4, if_neg (by omega)]
        · rw [if_neg h4, if_pos ⟨h3, by omega⟩]
          unfold Ref.last
          rw [if_neg (by omega)]
      · rw [if_pos (c := Ref.state R.log k s ≠ 3) h3, hx.st, if_neg (fun x => h3 x.1)]

theorem slotOf_virgin {st : Int} {cls : List (Int × Int)} {cs : List GCls} (h : ClsOk st cls cls.length cs) (rest : Int) (mem : List Int) (k s : Nat) :
    (slotOf ⟨st, rest, cs, mem⟩ k s = GSlot.virgin ∧ k < cls.length ∧ s < (Cf.sl cls k).toNat) ∨ (slotOf ⟨st, rest, cs, mem⟩ k s = GSlot.no ∧ ¬ (k < cls.length ∧ s < (Cf.sl cls k).toNat)) := by
  unfold slotOf
  by_cases hk : k < cls.length
  · show ((cs.getD k GCls.no).slots.getD s GSlot.no = _ ∧ _) ∨ ((cs.getD k GCls.no).slots.getD s GSlot.no = _ ∧ _)
    rw [h.sl k hk]
    by_cases hs : s < (Cf.sl cls k).toNat
    · left; refine ⟨?_, hk, hs⟩
      rw [List.getD_eq_getElem?_getD, List.getElem?_replicate, if_pos hs]; rfl
    · right; refine ⟨?_, fun x => hs x.2⟩
      rw [List.getD_eq_getElem?_getD, List.getElem?_replicate, if_neg hs]; rfl
  · right; refine ⟨?_, fun x => hk x.1⟩
    show (cs.getD k GCls.no).slots.getD s GSlot.no = _
    have : cs.getD k GCls.no = GCls.no := by
      rw [List.getD_eq_getElem?_getD, List.getElem?_eq_none (by rw [h.len]; omega)]; rfl
    rw [this]; rfl

/-- at the beginning -/
theorem Sim.start {st rest : Int} {cls : List (Int × Int)} {cs : List GCls} (hv : Cf.Valid st rest cls) (h : ClsOk st cls cls.length cs) (mem : List Int) (hm : (mem.length : Int) = 16 * Cf.gran st cls cls.length) : Sim ⟨st, rest, cs, mem⟩ ⟨st, rest, cls, [], []⟩ := by
  refine ⟨rfl, hm, ⟨fun i hi => absurd hi (by simp), fun i hi => absurd hi (by simp), fun i hi => absurd hi (by simp), fun k s _ => by show (-1 : Int) < 0; decide⟩, ⟨hv, rfl, h.len, fun k hk => h.bg k hk, fun k hk => h.by_ k hk, fun k hk => ?_⟩, ⟨hv, fun i => by simp [Ref.Ev.no], fun i => by simp [Ref.Ev.no]⟩, fun k s => ?_, fun k s hk hs => ?_⟩
  · show ((cs.getD k GCls.no).slots.length : Int) = Cf.sl cls k
    rw [h.sl k hk, List.length_replicate]; have := hv.s0 k hk; omega
  · rcases slotOf_virgin h rest mem k s with ⟨e, _⟩ | ⟨e, _⟩ <;> rw [e] <;> simp [GSlot.virgin, GSlot.no]
  · rcases slotOf_virgin h rest mem k s with ⟨e, _⟩ | ⟨_, e⟩
    · rw [e]
      have hgv : Ref.given [] (k : Int) (s : Int) = -1 := rfl
      have hst : Ref.state [] (k : Int) (s : Int) = 2 := rfl
      exact ⟨rfl, rfl, fun h0 => by rw [hgv] at h0; omega, by simp [GSlot.virgin, hst], by simp [GSlot.virgin, hgv], by simp [GSlot.virgin, hst]⟩
    · exact absurd ⟨hk, hs⟩ e

/-- the document's heap's own blocks -/
def RFoot (p : Nat) (vc vl vm : Value) (b : Nat) : Prop := b = p ∨ vc.ownBlock = some b ∨ vl.ownBlock = some b ∨ vm.ownBlock = some b
theorem RRep.foot_lt {w : World} {p : Nat} {vc vl vm : Value} {R : RSt} (h : RRep w p vc vl vm R) {b : Nat} (hb : RFoot p vc vl vm b) : b < w.heap.size := by
  rcases hb with rfl | hb | hb | hb
  · exact h.blk.lt
  · exact row_lt h.cls hb
  · exact row_lt h.log hb
  · exact row_lt h.marks hb
theorem RRep.kept {w w' : World} {p : Nat} {vc vl vm : Value} {R : RSt} (h : RRep w p vc vl vm R) (hk : ∀ b, RFoot p vc vl vm b → w'.heap[b]? = w.heap[b]?) : RRep w' p vc vl vm R :=
  ⟨(hk p (.inl rfl)).trans h.blk, row_kept h.cls (fun g hg => hk g (.inr (.inl hg))), row_kept h.log (fun g hg => hk g (.inr (.inr (.inl hg)))), row_kept h.marks (fun g hg => hk g (.inr (.inr (.inr hg)))), h.apC, h.apL, h.apM, h.apCL, h.apCM, h.apLM⟩
end Go.Proofs.Ytjikemhmnkckcaa
