import Derived.Test.YtjikemhmnkckcaaJ10
import Derived.Test.YtjikemhmnkckcaaJ6
import Derived.Test.YtjikemhmnkckcaaJ2
namespace Go.Proofs.Ytjikemhmnkckcaa
open Go.RowKit

/-- a slot of the program, and what the document's list says of it -/
structure SlotSim (log : List Ref.Ev) (rest : Int) (k s : Nat) (x : GSlot) : Prop where
  st : x.state = Ref.state log k s
  tag : x.tag = Ref.last log k s
  bytes : 0 ≤ Ref.given log k s → x.bytes = 16 * (log.getD (Ref.given log k s).toNat Ref.Ev.no).size
  rest : x.rest = if Ref.state log k s = 4 then max 0 (rest - Ref.since log k s) else 0
  alloc : x.alloc = if Ref.given log k s < 0 then 0 else (log.getD (Ref.given log k s).toNat Ref.Ev.no).site
  gone : x.gone = if Ref.state log k s = 4 then (log.getD (Ref.gone log k s).toNat Ref.Ev.no).site else 0

/-- the events speak of slots that there are; nothing is taken back that was not given out -/
structure LogOk (R : RSt) : Prop where
  cls0 : ∀ i, i < R.log.length → 0 ≤ (R.log.getD i Ref.Ev.no).cls
  slot0 : ∀ i, i < R.log.length → 0 ≤ (R.log.getD i Ref.Ev.no).slot
  slot1 : ∀ i, i < R.log.length → (R.log.getD i Ref.Ev.no).slot < Cf.sl R.cls (R.log.getD i Ref.Ev.no).cls.toNat
  vir : ∀ k s : Nat, Ref.given R.log k s < 0 → Ref.gone R.log k s < 0

structure Sim (G : GSt) (R : RSt) : Prop where
  st : G.st = R.st
  mem : (G.mem.length : Int) = 16 * Cf.gran G.st R.cls R.cls.length
  log : LogOk R
  ok : GOk G R.rest R.cls
  rok : ROk R
  bd : GBd G
  slots : ∀ k s, k < R.cls.length → s < (Cf.sl R.cls k).toNat → SlotSim R.log R.rest k s (slotOf G k s)

theorem Sim.tag {G : GSt} {R : RSt} (h : Sim G R) (addr : Int) : gtag G R.cls addr = Cf.tag R.st R.cls R.log addr := by
  unfold gtag Cf.tag
  rw [h.st]
  by_cases h1 : 16 ≤ addr ∧ addr < 16 * (1 + R.st)
  · rw [if_pos h1, if_pos h1]
  · rw [if_neg h1, if_neg h1]
    rcases Cf.slot_bd R.st R.cls addr with hsl | ⟨k, s, hsl, hk, hs, _⟩
    · rw [hsl]; rfl
    · rw [hsl]
      have hx := h.slots k s hk hs
      have hk0 : ¬ ((k : Int) < 0) := by omega
      simp only [Int.toNat_natCast]
      rw [if_neg hk0, if_neg hk0]
      by_cases h3 : Ref.state R.log k s = 3
      · have hg : 0 ≤ Ref.given R.log k s := by
          unfold Ref.state at h3; split at h3
          · omega
          · omega
        rw [if_neg (c := Ref.state R.log k s ≠ 3) (by simp [h3]), hx.st, hx.bytes hg, hx.tag]
        by_cases h4 : Cf.begin_ R.st R.cls k s + 16 * (R.log.getD (Ref.given R.log k s).toNat Ref.Ev.no).size ≤ addr
        · rw [if_pos h4, if_neg (by omega)]
        · rw [if_neg h4, if_pos ⟨h3, by omega⟩]
          unfold Ref.last
          rw [if_neg (by omega)]
      · rw [if_pos (c := Ref.state R.log k s ≠ 3) h3, hx.st, if_neg (fun x => h3 x.1)]

theorem slotOf_virgin {st : Int} {cls : List (Int × Int)} {cs : List GCls} (h : ClsOk st cls cls.length cs) (rest : Int) (mem : List Int) (k s : Nat) :
    (slotOf ⟨st, rest, cs, mem⟩ k s = GSlot.virgin ∧ k < cls.length ∧ s < (Cf.sl cls k).toNat) ∨ (slotOf ⟨st, rest, cs, mem⟩ k s = GSlot.no ∧ ¬ (k < cls.length ∧ s < (Cf.sl cls k).toNat)) := by
  unfold slotOf
  by_cases hk : k < cls.length
  · show ((cs.getD k GCls.no).slots.getD s GSlot.no = _ ∧ _) ∨ ((cs.getD k GCls.no).slots.getD s GSlot.no = _ ∧ _)
    rw [h.sl k hk]
    by_cases hs : s < (Cf.sl cls k).toNat
    · left; refine ⟨?_, hk, hs⟩
      rw [List.getD_eq_getElem?_getD, List.getElem?_replicate, if_pos hs]; rfl
    · right; refine ⟨?_, fun x => hs x.2⟩
      rw [List.getD_eq_getElem?_getD, List.getElem?_replicate, if_neg hs]; rfl
  · right; refine ⟨?_, fun x => hk x.1⟩
    show (cs.getD k GCls.no).slots.getD s GSlot.no = _
    have : cs.getD k GCls.no = GCls.no := by
      rw [List.getD_eq_getElem?_getD, List.getElem?_eq_none (by rw [h.len]; omega)]; rfl
    rw [this]; rfl

/-- at the beginning -/
theorem Sim.start {st rest : Int} {cls : List (Int × Int)} {cs : List GCls} (hv : Cf.Valid st rest cls) (h : ClsOk st cls cls.length cs) (mem : List Int) (hm : (mem.length : Int) = 16 * Cf.gran st cls cls.length) : Sim ⟨st, rest, cs, mem⟩ ⟨st, rest, cls, [], []⟩ := by
  refine ⟨rfl, hm, ⟨fun i hi => absurd hi (by simp), fun i hi => absurd hi (by simp), fun i hi => absurd hi (by simp), fun k s _ => by show (-1 : Int) < 0; decide⟩, ⟨hv, rfl, h.len, fun k hk => h.bg k hk, fun k hk => h.by_ k hk, fun k hk => ?_⟩, ⟨hv, fun i => by simp [Ref.Ev.no], fun i => by simp [Ref.Ev.no]⟩, fun k s => ?_, fun k s hk hs => ?_⟩
  · show ((cs.getD k GCls.no).slots.length : Int) = Cf.sl cls k
    rw [h.sl k hk, List.length_replicate]; have := hv.s0 k hk; omega
  · rcases slotOf_virgin h rest mem k s with ⟨e, _⟩ | ⟨e, _⟩ <;> rw [e] <;> simp [GSlot.virgin, GSlot.no]
  · rcases slotOf_virgin h rest mem k s with ⟨e, _⟩ | ⟨_, e⟩
    · rw [e]
      have hgv : Ref.given [] (k : Int) (s : Int) = -1 := rfl
      have hst : Ref.state [] (k : Int) (s : Int) = 2 := rfl
      exact ⟨rfl, rfl, fun h0 => by rw [hgv] at h0; omega, by simp [GSlot.virgin, hst], by simp [GSlot.virgin, hgv], by simp [GSlot.virgin, hst]⟩
    · exact absurd ⟨hk, hs⟩ e

/-- the document's heap's own blocks -/
def RFoot (p : Nat) (vc vl vm : Value) (b : Nat) : Prop := b = p ∨ vc.ownBlock = some b ∨ vl.ownBlock = some b ∨ vm.ownBlock = some b
theorem RRep.foot_lt {w : World} {p : Nat} {vc vl vm : Value} {R : RSt} (h : RRep w p vc vl vm R) {b : Nat} (hb : RFoot p vc vl vm b) : b < w.heap.size := by
  rcases hb with rfl | hb | hb | hb
  · exact h.blk.lt
  · exact row_lt h.cls hb
  · exact row_lt h.log hb
  · exact row_lt h.marks hb
theorem RRep.kept {w w' : World} {p : Nat} {vc vl vm : Value} {R : RSt} (h : RRep w p vc vl vm R) (hk : ∀ b, RFoot p vc vl vm b → w'.heap[b]? = w.heap[b]?) : RRep w' p vc vl vm R :=
  ⟨(hk p (.inl rfl)).trans h.blk, row_kept h.cls (fun g hg => hk g (.inr (.inl hg))), row_kept h.log (fun g hg => hk g (.inr (.inr (.inl hg)))), row_kept h.marks (fun g hg => hk g (.inr (.inr (.inr hg)))), h.apC, h.apL, h.apM, h.apCL, h.apCM, h.apLM⟩
end Go.Proofs.Ytjikemhmnkckcaa
/- Plain mathematics of the document's Malloc and Free. -/
namespace Go.Proofs.Ytjikemhmnkckcaa
namespace Ref

/-- the first class whose slots hold so many bytes; how many classes there are: none does -/
def classFrom (cls : List (Int × Int)) (size : Int) : Nat → Nat → Nat
  | 0, k => k
  | f + 1, k => if 16 * Cf.gr cls k < size then classFrom cls size f (k + 1) else k
def cls_ (cls : List (Int × Int)) (size : Int) : Nat := classFrom cls size cls.length 0
theorem classFrom_le (cls : List (Int × Int)) (size : Int) (f k : Nat) : k ≤ classFrom cls size f k ∧ classFrom cls size f k ≤ k + f := by
  induction f generalizing k with
  | zero => simp [classFrom]
  | succ f ih => simp only [classFrom]; have := ih (k + 1); split <;> omega
theorem classFrom_at (cls : List (Int × Int)) (size : Int) (f k : Nat) (h : classFrom cls size f k < k + f) : size ≤ 16 * Cf.gr cls (classFrom cls size f k) := by
  induction f generalizing k with
  | zero => simp [classFrom] at h
  | succ f ih =>
    simp only [classFrom] at h ⊢
    split
    · rename_i h1; rw [if_pos h1] at h; exact ih (k + 1) (by omega)
    · omega
theorem cls_le (cls : List (Int × Int)) (size : Int) : cls_ cls size ≤ cls.length := by have := classFrom_le cls size cls.length 0; unfold cls_; omega
theorem cls_at (cls : List (Int × Int)) (size : Int) (h : cls_ cls size < cls.length) : size ≤ 16 * Cf.gr cls (cls_ cls size) := classFrom_at cls size cls.length 0 (by unfold cls_ at h; omega)

/-- may a block be given out of the slot? -/
def openB (log : List Ev) (rest : Int) (k s : Nat) : Bool := (state log k s != 3) && !rests log rest k s
def first (log : List Ev) (rest : Int) (cls : List (Int × Int)) (k : Nat) : Int := firstFrom (openB log rest k) (Cf.sl cls k).toNat 0

/-- how many granules so many bytes need -/
def gsz (size : Int) : Int := (size + 15) / 16

def tagOf (log : List Ev) (k s : Nat) (draw : Int) : Nat := PickMath.pick (last log k s) (last log k ((s : Int) - 1)) (last log k ((s : Int) + 1)) draw
def U : Int := 72057594037927936

/-- is p a tag and an address? -/
def tameB (p : Int) : Bool := decide (0 ≤ p) && decide (p / U ≤ 15) && decide (p % U ≤ 65535)

/-- the slot of class k that begins at a and whose last tag is t, if it is not virgin -/
def matchB (st : Int) (cls : List (Int × Int)) (log : List Ev) (a t : Int) (k s : Nat) : Bool :=
  !(Cf.begin_ st cls k s != a || last log k s != t || state log k s == 2)
def blockIn (st : Int) (cls : List (Int × Int)) (log : List Ev) (a t : Int) (k : Nat) : Int := firstFrom (matchB st cls log a t k) (Cf.sl cls k).toNat 0
/-- class, slot, error -/
def blockFrom (st : Int) (cls : List (Int × Int)) (log : List Ev) (a t : Int) : Nat → Nat → Int × Int × Int
  | 0, _ => (0, 0, 8)
  | f + 1, k => if 0 ≤ blockIn st cls log a t k then (if state log k (blockIn st cls log a t k) = 4 then (0, 0, 9) else ((k : Int), blockIn st cls log a t k, 0)) else blockFrom st cls log a t f (k + 1)
def block (st : Int) (cls : List (Int × Int)) (log : List Ev) (p : Int) : Int × Int × Int :=
  if tameB p then blockFrom st cls log (p % U) (p / U) cls.length 0 else (0, 0, 5)
end Ref
end Go.Proofs.Ytjikemhmnkckcaa
/- What one event more does to what is looked for in the list. -/
namespace Go.Proofs.Ytjikemhmnkckcaa
namespace Ref

theorem getD_old (log : List Ev) (e : Ev) (i : Nat) (h : i < log.length) : (log ++ [e]).getD i Ev.no = log.getD i Ev.no := by
  rw [List.getD_eq_getElem?_getD, List.getD_eq_getElem?_getD, List.getElem?_append_left h]
theorem getD_new (log : List Ev) (e : Ev) : (log ++ [e]).getD log.length Ev.no = e := by simp

theorem givenTo_old (log : List Ev) (e : Ev) (k s : Int) (m : Nat) (h : m ≤ log.length) : givenTo (log ++ [e]) k s m = givenTo log k s m := by
  induction m with
  | zero => rfl
  | succ m ih => simp only [givenTo]; rw [getD_old log e m (by omega), ih (by omega)]
theorem given_snoc (log : List Ev) (e : Ev) (k s : Int) : given (log ++ [e]) k s = if e.gives k s then (log.length : Int) else given log k s := by
  unfold given
  rw [List.length_append, List.length_singleton]
  simp only [givenTo]
  rw [getD_new, givenTo_old log e k s log.length (Nat.le_refl _)]

theorem firstFrom_snoc (p : Nat → Bool) (f i : Nat) : firstFrom p (f + 1) i = if 0 ≤ firstFrom p f i then firstFrom p f i else if p (i + f) then ((i + f : Nat) : Int) else -1 := by
  induction f generalizing i with
  | zero =>
    simp only [firstFrom, Nat.add_zero]
    rw [if_neg (show ¬ (0 : Int) ≤ -1 by omega)]
  | succ f ih =>
    have e1 : firstFrom p (f + 1 + 1) i = if p i then (i : Int) else firstFrom p (f + 1) (i + 1) := rfl
    have e2 : firstFrom p (f + 1) i = if p i then (i : Int) else firstFrom p f (i + 1) := rfl
    rw [e1, e2]
    by_cases h : p i = true
    · simp [h]
    · rw [if_neg h, if_neg h, ih (i + 1), show i + 1 + f = i + (f + 1) by omega]
theorem firstFrom_congr (p q : Nat → Bool) (f i : Nat) (h : ∀ j, i ≤ j → j < i + f → p j = q j) : firstFrom p f i = firstFrom q f i := by
  induction f generalizing i with
  | zero => rfl
  | succ f ih =>
    simp only [firstFrom]
    rw [h i (Nat.le_refl _) (by omega), ih (i + 1) (fun j h1 h2 => h j (by omega) (by omega))]
theorem countFrom_snoc (p : Nat → Bool) (f i : Nat) : countFrom p (f + 1) i = countFrom p f i + if p (i + f) then 1 else 0 := by
  induction f generalizing i with
  | zero => simp [countFrom]
  | succ f ih =>
    have e1 : countFrom p (f + 1 + 1) i = (if p i then 1 else 0) + countFrom p (f + 1) (i + 1) := rfl
    have e2 : countFrom p (f + 1) i = (if p i then 1 else 0) + countFrom p f (i + 1) := rfl
    rw [e1, e2, ih (i + 1), show i + 1 + f = i + (f + 1) by omega]; omega
theorem countFrom_congr (p q : Nat → Bool) (f i : Nat) (h : ∀ j, i ≤ j → j < i + f → p j = q j) : countFrom p f i = countFrom q f i := by
  induction f generalizing i with
  | zero => rfl
  | succ f ih =>
    simp only [countFrom]
    rw [h i (Nat.le_refl _) (by omega), ih (i + 1) (fun j h1 h2 => h j (by omega) (by omega))]

theorem gone_gives (log : List Ev) (e : Ev) (k s : Int) (h : e.gives k s = true) : gone (log ++ [e]) k s = -1 := by
  unfold gone
  rw [given_snoc, if_pos h, List.length_append, List.length_singleton, show log.length + 1 - ((log.length : Int) + 1).toNat = 0 by omega]
  rfl
theorem gone_snoc (log : List Ev) (e : Ev) (k s : Int) (h : e.gives k s = false) : gone (log ++ [e]) k s = if 0 ≤ gone log k s then gone log k s else if e.takes k s then (log.length : Int) else -1 := by
  have g1 := given_lo log k s
  have g2 := given_hi log k s
  unfold gone
  rw [given_snoc, if_neg (by rw [h]; decide), List.length_append, List.length_singleton, show log.length + 1 - (given log k s + 1).toNat = (log.length - (given log k s + 1).toNat) + 1 by omega, firstFrom_snoc]
  have ec : firstFrom (fun i => ((log ++ [e]).getD i Ev.no).takes k s) (log.length - (given log k s + 1).toNat) (given log k s + 1).toNat = firstFrom (fun i => (log.getD i Ev.no).takes k s) (log.length - (given log k s + 1).toNat) (given log k s + 1).toNat :=
    firstFrom_congr _ _ _ _ (fun j _ h2 => by rw [getD_old log e j (by omega)])
  rw [ec, show (given log k s + 1).toNat + (log.length - (given log k s + 1).toNat) = log.length by omega]
  rw [getD_new]
theorem since_old (log : List Ev) (e : Ev) (k s : Int) (h : e.gives k s = false) (hg : 0 ≤ gone log k s) : since (log ++ [e]) k s = since log k s + if e.frees k then 1 else 0 := by
  have g2 := gone_hi log k s
  unfold since
  rw [gone_snoc log e k s h, if_pos hg, List.length_append, List.length_singleton, show log.length + 1 - (gone log k s + 1).toNat = (log.length - (gone log k s + 1).toNat) + 1 by omega, countFrom_snoc]
  have ec : countFrom (fun i => ((log ++ [e]).getD i Ev.no).frees k) (log.length - (gone log k s + 1).toNat) (gone log k s + 1).toNat = countFrom (fun i => (log.getD i Ev.no).frees k) (log.length - (gone log k s + 1).toNat) (gone log k s + 1).toNat :=
    countFrom_congr _ _ _ _ (fun j _ h2 => by rw [getD_old log e j (by omega)])
  rw [ec, show (gone log k s + 1).toNat + (log.length - (gone log k s + 1).toNat) = log.length by omega]
  rw [getD_new]
theorem since_new (log : List Ev) (e : Ev) (k s : Int) (h : gone (log ++ [e]) k s = (log.length : Int)) : since (log ++ [e]) k s = 0 := by
  unfold since
  rw [h, List.length_append, List.length_singleton, show log.length + 1 - ((log.length : Int) + 1).toNat = 0 by omega]
  rfl
end Ref
end Go.Proofs.Ytjikemhmnkckcaa
