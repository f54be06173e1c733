import Derived.Test.YtjikemhmnkckcabJ3
import Derived.Test.YtjikemhmnkckcabJ2
import Derived.Test.YtjikemhmnkckcabJ8
import Derived.Test.YtjikemhmnkckcabJ5
/- Plain mathematics of the document's Malloc and Free. -/
namespace Go.Proofs.Ytjikemhmnkckcab
namespace Ref

/-- the first class whose slots hold so many bytes; how many classes there are: none does -/
def classFrom (cls : List (Int × Int)) (size : Int) : Nat → Nat → Nat
  | 0, k => k
  | f + 1, k => if 16 * Cf.gr cls k < size then classFrom cls size f (k + 1) else k
def cls_ (cls : List (Int × Int)) (size : Int) : Nat := classFrom cls size cls.length 0
theorem classFrom_le (cls : List (Int × Int)) (size : Int) (f k : Nat) : k ≤ classFrom cls size f k ∧ classFrom cls size f k ≤ k + f := by
  induction f generalizing k with
  | zero => simp [classFrom]
  | succ f ih => simp only [classFrom]; have := ih (k + 1); split <;> omega
theorem classFrom_at (cls : List (Int × Int)) (size : Int) (f k : Nat) (h : classFrom cls size f k < k + f) : size ≤ 16 * Cf.gr cls (classFrom cls size f k) := by
  induction f generalizing k with
  | zero => simp [classFrom] at h
  | succ f ih =>
    simp only [classFrom] at h ⊢
    split
    · rename_i h1; rw [if_pos h1] at h; exact ih (k + 1) (by omega)
    · omega
theorem cls_le (cls : List (Int × Int)) (size : Int) : cls_ cls size ≤ cls.length := by have := classFrom_le cls size cls.length 0; unfold cls_; omega
theorem cls_at (cls : List (Int × Int)) (size : Int) (h : cls_ cls size < cls.length) : size ≤ 16 * Cf.gr cls (cls_ cls size) := classFrom_at cls size cls.length 0 (by unfold cls_ at h; omega)

/-- may a block be given out of the slot? -/
def openB (log : List Ev) (rest : Int) (k s : Nat) : Bool := (state log k s != 3) && !rests log rest k s
def first (log : List Ev) (rest : Int) (cls : List (Int × Int)) (k : Nat) : Int := firstFrom (openB log rest k) (Cf.sl cls k).toNat 0

/-- how many granules so many bytes need -/
def gsz (size : Int) : Int := (size + 15) / 16

def tagOf (log : List Ev) (k s : Nat) (draw : Int) : Nat := PickMath.pick (last log k s) (last log k ((s : Int) - 1)) (last log k ((s : Int) + 1)) draw
def U : Int := 72057594037927936

/-- is p a tag and an address? -/
def tameB (p : Int) : Bool := decide (0 ≤ p) && decide (p / U ≤ 15) && decide (p % U ≤ 65535)

/-- the slot of class k that begins at a and whose last tag is t, if it is not virgin -/
def matchB (st : Int) (cls : List (Int × Int)) (log : List Ev) (a t : Int) (k s : Nat) : Bool :=
  !(Cf.begin_ st cls k s != a || last log k s != t || state log k s == 2)
def blockIn (st : Int) (cls : List (Int × Int)) (log : List Ev) (a t : Int) (k : Nat) : Int := firstFrom (matchB st cls log a t k) (Cf.sl cls k).toNat 0
/-- class, slot, error -/
def blockFrom (st : Int) (cls : List (Int × Int)) (log : List Ev) (a t : Int) : Nat → Nat → Int × Int × Int
  | 0, _ => (0, 0, 8)
  | f + 1, k => if 0 ≤ blockIn st cls log a t k then (if state log k (blockIn st cls log a t k) = 4 then (0, 0, 9) else ((k : Int), blockIn st cls log a t k, 0)) else blockFrom st cls log a t f (k + 1)
def block (st : Int) (cls : List (Int × Int)) (log : List Ev) (p : Int) : Int × Int × Int :=
  if tameB p then blockFrom st cls log (p % U) (p / U) cls.length 0 else (0, 0, 5)
end Ref
end Go.Proofs.Ytjikemhmnkckcab
namespace Go.Proofs.Ytjikemhmnkckcab
open Go.RowKit

/-- the program's classFor -/
def gcls (cls : List (Int × Int)) (size : Int) : Int := if size < 1 ∨ Ref.cls_ cls size = cls.length then -1 else (Ref.cls_ cls size : Int)

set_option maxRecDepth 100000 in
set_option maxHeartbeats 1000000 in
theorem classFor_any (p : Nat) (vc : Value) (bb : Nat) (G : GSt) (rest : Int) (cls : List (Int × Int)) (size : Int) (w : World) (h : GRep w p vc bb G) (ho : GOk G rest cls) :
    Calls Try.prog 79 #[.pointer (some ⟨p, 0, none⟩), .int .i64 size] w fun e w' => e = .returned (.int .i64 (gcls cls size)) ∧ w = w' := by
  have c2 := h.blk.cell (j := 2) rfl
  have HO : Hid (GOk G rest cls) := ho
  have n0 := ho.conf.n0
  have n1 := ho.conf.n1
  have hlen := ho.len
  obtain ⟨ac, cap, rfl, hcap, hmax, hrow⟩ := row_open h.cls
  obtain ⟨g, rfl, hgl, hcell, _⟩ := hrow (by omega)
  unfold maxLen at hmax
  have HC : Hid (∀ j u, (G.cs.flatMap gclsCells)[j]? = some u → w.cell? ⟨g, j, none⟩ = some u) := hcell
  have HL : Hid (G.cs.length = cls.length) := hlen
  have hl1 : G.cs.length ≤ 4 := by omega
  clear h ho hrow hcell hlen
  by_cases h1 : size < 1
  · have hres : Hid (gcls cls size = -1) := if_pos (.inl h1)
    go_enter Try.func79, Try.ntmps79
    go_wp2
    go_ret
    exact ⟨ret_int hres.out.symm, rfl⟩
  · have hres : Hid (gcls cls size = if Ref.cls_ cls size = cls.length then -1 else (Ref.cls_ cls size : Int)) := by
      show _ = _
      simp [gcls, h1]
    go_enter Try.func79, Try.ntmps79
    go_wp2
    go_loop [5] (fun i => ∃ m f : Nat, m + f = G.cs.length ∧ i = .int .i64 (m : Int) ∧ Hid (Ref.cls_ cls size = Ref.classFrom cls size f m)) (fun i => G.cs.length - (intOf i).toNat)
    case atStart => exact ⟨0, G.cs.length, by omega, rfl, by show _ = _; rw [HL.out]; rfl⟩
    case round =>
      obtain ⟨m, f, hm, rfl, hc⟩ := hrel
      cases f with
      | zero =>
        have hm3 : ¬ (m : Int) < (G.cs.length : Int) := by omega
        have hfin : Hid (gcls cls size = -1) := by
          show _ = _
          rw [hres.out, if_pos (by rw [hc.out]; show m = _; have := HL.out; omega)]
        clear hm
        go_wp2
        go_ret
        exact ⟨ret_int hfin.out.symm, rfl⟩
      | succ f =>
        have hlt : m < G.cs.length := by omega
        have hlt2 : m < cls.length := by have := HL.out; omega
        obtain ⟨d0, d1, d2⟩ := gcls_cells HC.out m hlt
        rw [HO.out.by_ m hlt2] at d1
        have g0 := HO.out.conf.g0 m hlt2
        have g1 := HO.out.conf.g1 m hlt2
        have HM : Hid (m + (f + 1) = G.cs.length) := hm
        have hst : Hid (Ref.classFrom cls size (f + 1) m = if 16 * Cf.gr cls m < size then Ref.classFrom cls size f (m + 1) else m) := rfl
        have hltI : (m : Int) < (G.cs.length : Int) := by omega
        clear hm d0 d2
        by_cases hq : 16 * Cf.gr cls m < size
        · have hfin : Hid (Ref.cls_ cls size = Ref.classFrom cls size f (m + 1)) := by show _ = _; rw [hc.out, hst.out, if_pos hq]
          go_wp2
          go_round
          case rel => exact ⟨m + 1, f, by have := HM.out; omega, by go_num, hfin⟩
          case measure => simp [intOf]; omega
        · have hfin : Hid (gcls cls size = (m : Int)) := by
            show _ = _
            have e : Ref.cls_ cls size = m := by rw [hc.out, hst.out, if_neg hq]
            rw [hres.out, e, if_neg (by omega)]
          go_wp2
          go_ret
          exact ⟨ret_int hfin.out.symm, rfl⟩

def gopenB (xs : List GSlot) (s : Nat) : Bool := ((xs.getD s GSlot.no).state != 3) && ((xs.getD s GSlot.no).rest == 0)

set_option maxRecDepth 100000 in
set_option maxHeartbeats 1000000 in
theorem openSlot_any (b off sb : Nat) (xs : List GSlot) (w : World) (h2 : w.cell? ⟨b, off + 2, none⟩ = some (.slice (some ⟨sb, 0, none⟩) xs.length xs.length)) (hs : Blk w sb 97 (xs.flatMap slotCells)) (hx : xs.length ≤ 16) :
    Calls Try.prog 80 #[.pointer (some ⟨b, off, none⟩)] w fun e w' => e = .returned (.int .i64 (Ref.firstFrom (gopenB xs) xs.length 0)) ∧ w = w' := by
  have HS : Hid (Blk w sb 97 (xs.flatMap slotCells)) := hs
  clear hs
  go_enter Try.func80, Try.ntmps80
  go_wp2
  go_loop [3] (fun i => ∃ m f : Nat, m + f = xs.length ∧ i = .int .i64 (m : Int) ∧ Hid (Ref.firstFrom (gopenB xs) xs.length 0 = Ref.firstFrom (gopenB xs) f m)) (fun i => xs.length - (intOf i).toNat)
  case atStart => exact ⟨0, xs.length, by omega, rfl, rfl⟩
  case round =>
    obtain ⟨m, f, hm, rfl, hc⟩ := hrel
    cases f with
    | zero =>
      have hm3 : ¬ (m : Int) < (xs.length : Int) := by omega
      clear hm
      go_wp2
      go_ret
      exact ⟨ret_int hc.out.symm, rfl⟩
    | succ f =>
      have hlt : m < xs.length := by omega
      obtain ⟨e0, e1, e2, e3, e4, e5⟩ := slot_cells HS.out m hlt
      have HM : Hid (m + (f + 1) = xs.length) := hm
      have hst : Hid (Ref.firstFrom (gopenB xs) (f + 1) m = if gopenB xs m then (m : Int) else Ref.firstFrom (gopenB xs) f (m + 1)) := rfl
      have hop : Hid (gopenB xs m = (((xs.getD m GSlot.no).state != 3) && ((xs.getD m GSlot.no).rest == 0))) := rfl
      have hltI : (m : Int) < (xs.length : Int) := by omega
      generalize xs.getD m GSlot.no = x at *
      clear hm e1 e2 e4 e5
      cases x1 : (x.state != 3) <;> cases x2 : (x.rest == 0)
      case true.true =>
        have hfin : Hid (Ref.firstFrom (gopenB xs) xs.length 0 = (m : Int)) := by show _ = _; rw [hc.out, hst.out, hop.out, x1, x2]; rfl
        go_wp2
        go_ret
        exact ⟨ret_int hfin.out.symm, rfl⟩
      all_goals
        have hfin : Hid (Ref.firstFrom (gopenB xs) xs.length 0 = Ref.firstFrom (gopenB xs) f (m + 1)) := by show _ = _; rw [hc.out, hst.out, hop.out, x1, x2]; rfl
        go_wp2
        go_round
        case rel => exact ⟨m + 1, f, by have := HM.out; omega, by go_num, hfin⟩
        case measure => simp [intOf]; omega

/-- the last tag of a slot; 0: there is no such slot -/
def glast (xs : List GSlot) (i : Int) : Int := if 0 ≤ i ∧ i < xs.length then (xs.getD i.toNat GSlot.no).tag else 0

set_option maxRecDepth 100000 in
set_option maxHeartbeats 1000000 in
theorem lastTag_any (b off sb : Nat) (xs : List GSlot) (i : Int) (w : World) (h2 : w.cell? ⟨b, off + 2, none⟩ = some (.slice (some ⟨sb, 0, none⟩) xs.length xs.length)) (hs : Blk w sb 97 (xs.flatMap slotCells)) :
    Calls Try.prog 94 #[.pointer (some ⟨b, off, none⟩), .int .i64 i] w fun e w' => e = .returned (.int .i64 (glast xs i)) ∧ w = w' := by
  by_cases h0 : i < 0
  · have hf : Hid (glast xs i = 0) := by show _ = _; unfold glast; rw [if_neg (by omega)]
    clear hs
    go_enter Try.func94, Try.ntmps94
    go_wp2
    go_ret
    exact ⟨ret_int hf.out.symm, rfl⟩
  · obtain ⟨m, rfl⟩ := Int.eq_ofNat_of_zero_le (show 0 ≤ i by omega)
    by_cases h1 : (m : Int) < xs.length
    · have hf : Hid (glast xs m = (xs.getD m GSlot.no).tag) := by show _ = _; unfold glast; rw [if_pos ⟨by omega, h1⟩]; rfl
      obtain ⟨e0, e1, e2, e3, e4, e5⟩ := slot_cells hs m (by omega)
      generalize xs.getD m GSlot.no = x at *
      clear hs e0 e2 e3 e4 e5
      go_enter Try.func94, Try.ntmps94
      go_wp2
      all_goals
        go_ret
        exact ⟨ret_int hf.out.symm, rfl⟩
    · have hf : Hid (glast xs m = 0) := by show _ = _; unfold glast; rw [if_neg (by omega)]
      clear hs
      go_enter Try.func94, Try.ntmps94
      go_wp2
      all_goals
        go_ret
        exact ⟨ret_int hf.out.symm, rfl⟩

set_option maxRecDepth 100000 in
set_option maxHeartbeats 1000000 in
theorem pickTag_any (b off sb : Nat) (xs : List GSlot) (s : Nat) (draw : Int) (w : World) (h2 : w.cell? ⟨b, off + 2, none⟩ = some (.slice (some ⟨sb, 0, none⟩) xs.length xs.length)) (hs : Blk w sb 97 (xs.flatMap slotCells)) (hsl : s ≤ 16) :
    Calls Try.prog 81 #[.pointer (some ⟨b, off, none⟩), .int .i64 (s : Int), .int .i64 draw] w fun e w' => e = .returned (.int .i64 (PickMath.pick (glast xs s) (glast xs ((s : Int) - 1)) (glast xs ((s : Int) + 1)) draw)) ∧ Below w.heap.size w w' := by
  have HS : Hid (Blk w sb 97 (xs.flatMap slotCells)) := hs
  have H2 : Hid (w.cell? ⟨b, off + 2, none⟩ = some (.slice (some ⟨sb, 0, none⟩) xs.length xs.length)) := h2
  clear hs h2
  go_enter Try.func81, Try.ntmps81
  go_wp2_with fail
  refine (lastTag_any b off sb xs _ _ H2.out HS.out).mono ?_
  rintro e1 w1 ⟨rfl, rfl⟩
  go_wp2_with fail
  refine (lastTag_any b off sb xs _ _ H2.out HS.out).mono ?_
  rintro e1 w1 ⟨rfl, rfl⟩
  go_wp2_with fail
  refine (lastTag_any b off sb xs _ _ H2.out HS.out).mono ?_
  rintro e1 w1 ⟨rfl, rfl⟩
  go_wp2_with fail
  refine (gpick_any _ _ _ _ _).mono ?_
  rintro e1 w1 ⟨rfl, hb⟩
  go_wp2
  go_ret
  exact ⟨rfl, hb⟩

set_option maxHeartbeats 400000 in
theorem whole_any (size : Int) (w : World) (h0 : 1 ≤ size) (h1 : size ≤ 128) :
    Calls Try.prog 82 #[.int .i64 size] w fun e w' => e = .returned (.int .i64 (16 * Ref.gsz size)) ∧ w = w' := by
  have hg : Hid (16 * Ref.gsz size = (size + 16 - 1) / 16 * 16) := by show _ = _; unfold Ref.gsz; omega
  go_enter Try.func82, Try.ntmps82
  go_wp2
  go_ret
  exact ⟨ret_int hg.out.symm, rfl⟩
end Go.Proofs.Ytjikemhmnkckcab
namespace Go.Proofs.Ytjikemhmnkckcab
open Go.RowKit

/-- a slot of the program, and what the document's list says of it -/
structure SlotSim (log : List Ref.Ev) (rest : Int) (k s : Nat) (x : GSlot) : Prop where
  st : x.state = Ref.state log k s
  tag : x.tag = Ref.last log k s
  bytes : 0 ≤ Ref.given log k s → x.bytes = 16 * (log.getD (Ref.given log k s).toNat Ref.Ev.no).size
  rest : x.rest = if Ref.state log k s = 4 then max 0 (rest - Ref.since log k s) else 0
  alloc : x.alloc = if Ref.given log k s < 0 then 0 else (log.getD (Ref.given log k s).toNat Ref.Ev.no).site
  gone : x.gone = if Ref.state log k s = 4 then (log.getD (Ref.gone log k s).toNat Ref.Ev.no).site else 0

/-- the events speak of slots that there are; nothing is taken back that was not given out -/
structure LogOk (R : RSt) : Prop where
  cls0 : ∀ i, i < R.log.length → 0 ≤ (R.log.getD i Ref.Ev.no).cls
  slot0 : ∀ i, i < R.log.length → 0 ≤ (R.log.getD i Ref.Ev.no).slot
  slot1 : ∀ i, i < R.log.length → (R.log.getD i Ref.Ev.no).slot < Cf.sl R.cls (R.log.getD i Ref.Ev.no).cls.toNat
  vir : ∀ k s : Nat, Ref.given R.log k s < 0 → Ref.gone R.log k s < 0

structure Sim (G : GSt) (R : RSt) : Prop where
  st : G.st = R.st
  mem : (G.mem.length : Int) = 16 * Cf.gran G.st R.cls R.cls.length
  log : LogOk R
  ok : GOk G R.rest R.cls
  rok : ROk R
  bd : GBd G
  slots : ∀ k s, k < R.cls.length → s < (Cf.sl R.cls k).toNat → SlotSim R.log R.rest k s (slotOf G k s)

theorem Sim.tag {G : GSt} {R : RSt} (h : Sim G R) (addr : Int) : gtag G R.cls addr = Cf.tag R.st R.cls R.log addr := by
  unfold gtag Cf.tag
  rw [h.st]
  by_cases h1 : 16 ≤ addr ∧ addr < 16 * (1 + R.st)
  · rw [if_pos h1, if_pos h1]
  · rw [if_neg h1, if_neg h1]
    rcases Cf.slot_bd R.st R.cls addr with hsl | ⟨k, s, hsl, hk, hs, _⟩
    · rw [hsl]; rfl
    · rw [hsl]
      have hx := h.slots k s hk hs
      have hk0 : ¬ ((k : Int) < 0) := by omega
      simp only [Int.toNat_natCast]
      rw [if_neg hk0, if_neg hk0]
      by_cases h3 : Ref.state R.log k s = 3
      · have hg : 0 ≤ Ref.given R.log k s := by
          unfold Ref.state at h3; split at h3
          · omega
          · omega
        rw [if_neg (c := Ref.state R.log k s ≠ 3) (by simp [h3]), hx.st, hx.bytes hg, hx.tag]
        by_cases h4 : Cf.begin_ R.st R.cls k s + 16 * (R.log.getD (Ref.given R.log k s).toNat Ref.Ev.no).size ≤ addr
        · rw [if_pos h4, if_neg (by omega)]
        · rw [if_neg h4, if_pos ⟨h3, by omega⟩]
          unfold Ref.last
          rw [if_neg (by omega)]
      · rw [if_pos (c := Ref.state R.log k s ≠ 3) h3, hx.st, if_neg (fun x => h3 x.1)]

theorem slotOf_virgin {st : Int} {cls : List (Int × Int)} {cs : List GCls} (h : ClsOk st cls cls.length cs) (rest : Int) (mem : List Int) (k s : Nat) :
    (slotOf ⟨st, rest, cs, mem⟩ k s = GSlot.virgin ∧ k < cls.length ∧ s < (Cf.sl cls k).toNat) ∨ (slotOf ⟨st, rest, cs, mem⟩ k s = GSlot.no ∧ ¬ (k < cls.length ∧ s < (Cf.sl cls k).toNat)) := by
  unfold slotOf
  by_cases hk : k < cls.length
  · show ((cs.getD k GCls.no).slots.getD s GSlot.no = _ ∧ _) ∨ ((cs.getD k GCls.no).slots.getD s GSlot.no = _ ∧ _)
    rw [h.sl k hk]
    by_cases hs : s < (Cf.sl cls k).toNat
    · left; refine ⟨?_, hk, hs⟩
      rw [List.getD_eq_getElem?_getD, List.getElem?_replicate, if_pos hs]; rfl
    · right; refine ⟨?_, fun x => hs x.2⟩
      rw [List.getD_eq_getElem?_getD, List.getElem?_replicate, if_neg hs]; rfl
  · right; refine ⟨?_, fun x => hk x.1⟩
    show (cs.getD k GCls.no).slots.getD s GSlot.no = _
    have : cs.getD k GCls.no = GCls.no := by
      rw [List.getD_eq_getElem?_getD, List.getElem?_eq_none (by rw [h.len]; omega)]; rfl
    rw [this]; rfl

/-- at the beginning -/
theorem Sim.start {st rest : Int} {cls : List (Int × Int)} {cs : List GCls} (hv : Cf.Valid st rest cls) (h : ClsOk st cls cls.length cs) (mem : List Int) (hm : (mem.length : Int) = 16 * Cf.gran st cls cls.length) : Sim ⟨st, rest, cs, mem⟩ ⟨st, rest, cls, [], []⟩ := by
  refine ⟨rfl, hm, ⟨fun i hi => absurd hi (by simp), fun i hi => absurd hi (by simp), fun i hi => absurd hi (by simp), fun k s _ => by show (-1 : Int) < 0; decide⟩, ⟨hv, rfl, h.len, fun k hk => h.bg k hk, fun k hk => h.by_ k hk, fun k hk => ?_⟩, ⟨hv, fun i => by simp [Ref.Ev.no], fun i => by simp [Ref.Ev.no]⟩, fun k s => ?_, fun k s hk hs => ?_⟩
  · show ((cs.getD k GCls.no).slots.length : Int) = Cf.sl cls k
    rw [h.sl k hk, List.length_replicate]; have := hv.s0 k hk; omega
  · rcases slotOf_virgin h rest mem k s with ⟨e, _⟩ | ⟨e, _⟩ <;> rw [e] <;> simp [GSlot.virgin, GSlot.no]
  · rcases slotOf_virgin h rest mem k s with ⟨e, _⟩ | ⟨_, e⟩
    · rw [e]
      have hgv : Ref.given [] (k : Int) (s : Int) = -1 := rfl
      have hst : Ref.state [] (k : Int) (s : Int) = 2 := rfl
      exact ⟨rfl, rfl, fun h0 => by rw [hgv] at h0; omega, by simp [GSlot.virgin, hst], by simp [GSlot.virgin, hgv], by simp [GSlot.virgin, hst]⟩
    · exact absurd ⟨hk, hs⟩ e

/-- the document's heap's own blocks -/
def RFoot (p : Nat) (vc vl vm : Value) (b : Nat) : Prop := b = p ∨ vc.ownBlock = some b ∨ vl.ownBlock = some b ∨ vm.ownBlock = some b
end Go.Proofs.Ytjikemhmnkckcab
/- What one event more does to what is looked for in the list. -/
namespace Go.Proofs.Ytjikemhmnkckcab
namespace Ref

theorem getD_old (log : List Ev) (e : Ev) (i : Nat) (h : i < log.length) : (log ++ [e]).getD i Ev.no = log.getD i Ev.no := by
  rw [List.getD_eq_getElem?_getD, List.getD_eq_getElem?_getD, List.getElem?_append_left h]
theorem getD_new (log : List Ev) (e : Ev) : (log ++ [e]).getD log.length Ev.no = e := by simp

theorem givenTo_old (log : List Ev) (e : Ev) (k s : Int) (m : Nat) (h : m ≤ log.length) : givenTo (log ++ [e]) k s m = givenTo log k s m := by
  induction m with
  | zero => rfl
  | succ m ih => simp only [givenTo]; rw [getD_old log e m (by omega), ih (by omega)]
theorem given_snoc (log : List Ev) (e : Ev) (k s : Int) : given (log ++ [e]) k s = if e.gives k s then (log.length : Int) else given log k s := by
  unfold given
  rw [List.length_append, List.length_singleton]
  simp only [givenTo]
  rw [getD_new, givenTo_old log e k s log.length (Nat.le_refl _)]

theorem firstFrom_snoc (p : Nat → Bool) (f i : Nat) : firstFrom p (f + 1) i = if 0 ≤ firstFrom p f i then firstFrom p f i else if p (i + f) then ((i + f : Nat) : Int) else -1 := by
  induction f generalizing i with
  | zero =>
    simp only [firstFrom, Nat.add_zero]
    rw [if_neg (show ¬ (0 : Int) ≤ -1 by omega)]
  | succ f ih =>
    have e1 : firstFrom p (f + 1 + 1) i = if p i then (i : Int) else firstFrom p (f + 1) (i + 1) := rfl
    have e2 : firstFrom p (f + 1) i = if p i then (i : Int) else firstFrom p f (i + 1) := rfl
    rw [e1, e2]
    by_cases h : p i = true
    · simp [h]
    · rw [if_neg h, if_neg h, ih (i + 1), show i + 1 + f = i + (f + 1) by omega]
theorem firstFrom_congr (p q : Nat → Bool) (f i : Nat) (h : ∀ j, i ≤ j → j < i + f → p j = q j) : firstFrom p f i = firstFrom q f i := by
  induction f generalizing i with
  | zero => rfl
  | succ f ih =>
    simp only [firstFrom]
    rw [h i (Nat.le_refl _) (by omega), ih (i + 1) (fun j h1 h2 => h j (by omega) (by omega))]
theorem countFrom_snoc (p : Nat → Bool) (f i : Nat) : countFrom p (f + 1) i = countFrom p f i + if p (i + f) then 1 else 0 := by
  induction f generalizing i with
  | zero => simp [countFrom]
  | succ f ih =>
    have e1 : countFrom p (f + 1 + 1) i = (if p i then 1 else 0) + countFrom p (f + 1) (i + 1) := rfl
    have e2 : countFrom p (f + 1) i = (if p i then 1 else 0) + countFrom p f (i + 1) := rfl
    rw [e1, e2, ih (i + 1), show i + 1 + f = i + (f + 1) by omega]; omega
theorem countFrom_congr (p q : Nat → Bool) (f i : Nat) (h : ∀ j, i ≤ j → j < i + f → p j = q j) : countFrom p f i = countFrom q f i := by
  induction f generalizing i with
  | zero => rfl
  | succ f ih =>
    simp only [countFrom]
    rw [h i (Nat.le_refl _) (by omega), ih (i + 1) (fun j h1 h2 => h j (by omega) (by omega))]

theorem gone_gives (log : List Ev) (e : Ev) (k s : Int) (h : e.gives k s = true) : gone (log ++ [e]) k s = -1 := by
  unfold gone
  rw [given_snoc, if_pos h, List.length_append, List.length_singleton, show log.length + 1 - ((log.length : Int) + 1).toNat = 0 by omega]
  rfl
theorem gone_snoc (log : List Ev) (e : Ev) (k s : Int) (h : e.gives k s = false) : gone (log ++ [e]) k s = if 0 ≤ gone log k s then gone log k s else if e.takes k s then (log.length : Int) else -1 := by
  have g1 := given_lo log k s
  have g2 := given_hi log k s
  unfold gone
  rw [given_snoc, if_neg (by rw [h]; decide), List.length_append, List.length_singleton, show log.length + 1 - (given log k s + 1).toNat = (log.length - (given log k s + 1).toNat) + 1 by omega, firstFrom_snoc]
  have ec : firstFrom (fun i => ((log ++ [e]).getD i Ev.no).takes k s) (log.length - (given log k s + 1).toNat) (given log k s + 1).toNat = firstFrom (fun i => (log.getD i Ev.no).takes k s) (log.length - (given log k s + 1).toNat) (given log k s + 1).toNat :=
    firstFrom_congr _ _ _ _ (fun j _ h2 => by rw [getD_old log e j (by omega)])
  rw [ec, show (given log k s + 1).toNat + (log.length - (given log k s + 1).toNat) = log.length by omega]
  rw [getD_new]
theorem since_old (log : List Ev) (e : Ev) (k s : Int) (h : e.gives k s = false) (hg : 0 ≤ gone log k s) : since (log ++ [e]) k s = since log k s + if e.frees k then 1 else 0 := by
  have g2 := gone_hi log k s
  unfold since
  rw [gone_snoc log e k s h, if_pos hg, List.length_append, List.length_singleton, show log.length + 1 - (gone log k s + 1).toNat = (log.length - (gone log k s + 1).toNat) + 1 by omega, countFrom_snoc]
  have ec : countFrom (fun i => ((log ++ [e]).getD i Ev.no).frees k) (log.length - (gone log k s + 1).toNat) (gone log k s + 1).toNat = countFrom (fun i => (log.getD i Ev.no).frees k) (log.length - (gone log k s + 1).toNat) (gone log k s + 1).toNat :=
    countFrom_congr _ _ _ _ (fun j _ h2 => by rw [getD_old log e j (by omega)])
  rw [ec, show (gone log k s + 1).toNat + (log.length - (gone log k s + 1).toNat) = log.length by omega]
  rw [getD_new]
theorem since_new (log : List Ev) (e : Ev) (k s : Int) (h : gone (log ++ [e]) k s = (log.length : Int)) : since (log ++ [e]) k s = 0 := by
  unfold since
  rw [h, List.length_append, List.length_singleton, show log.length + 1 - ((log.length : Int) + 1).toNat = 0 by omega]
  rfl
end Ref
end Go.Proofs.Ytjikemhmnkckcab
namespace Go.Proofs.Ytjikemhmnkckcab
open Go.RowKit


theorem GRep.setMem {w w' : World} {p : Nat} {vc : Value} {bb : Nat} {G : GSt} (h : GRep w p vc bb G) (mem' : List Int) (hl : mem'.length = G.mem.length) (hk : Kept w w' (· = bb)) (hb : Blk w' bb 5 (mem'.map (Value.int .u8))) :
    GRep w' p vc bb ⟨G.st, G.rest, G.cs, mem'⟩ := by
  refine ⟨?_, ?_, fun k hk' => ?_, hb, h.apC, h.apB, h.apCB, h.apS, h.apSS⟩
  · show Blk w' p _ [_, _, _, .slice _ mem'.length mem'.length]
    rw [hl]; exact (hk.block p h.blk.lt (fun e => h.apB e.symm)).trans h.blk
  · exact row_kept h.cls fun g hg => hk.block g (row_lt h.cls hg) (fun e => h.apCB (e ▸ hg))
  · exact (hk.block _ (h.slots k hk').lt (h.apS k hk').2.1).trans (h.slots k hk')

/-- the heap with other slots in class k -/
def GSt.withSlots (G : GSt) (k : Nat) (xs : List GSlot) : GSt := ⟨G.st, G.rest, G.cs.set k ⟨(G.cs.getD k GCls.no).begin_, (G.cs.getD k GCls.no).bytes, xs, (G.cs.getD k GCls.no).sb⟩, G.mem⟩

theorem withSlots_getD (G : GSt) (k j : Nat) (xs : List GSlot) (hk : k < G.cs.length) :
    (G.withSlots k xs).cs.getD j GCls.no = if j = k then ⟨(G.cs.getD k GCls.no).begin_, (G.cs.getD k GCls.no).bytes, xs, (G.cs.getD k GCls.no).sb⟩ else G.cs.getD j GCls.no := by
  unfold GSt.withSlots
  by_cases e : j = k
  · subst e; rw [if_pos rfl]; simp [List.getD_eq_getElem?_getD, hk]
  · rw [if_neg e]; simp [List.getD_eq_getElem?_getD, List.getElem?_set_ne (Ne.symm e)]
theorem withSlots_sb (G : GSt) (k j : Nat) (xs : List GSlot) (hk : k < G.cs.length) : ((G.withSlots k xs).cs.getD j GCls.no).sb = (G.cs.getD j GCls.no).sb := by
  rw [withSlots_getD G k j xs hk]; split
  · rename_i e; rw [e]
  · rfl
theorem withSlots_begin (G : GSt) (k j : Nat) (xs : List GSlot) (hk : k < G.cs.length) : ((G.withSlots k xs).cs.getD j GCls.no).begin_ = (G.cs.getD j GCls.no).begin_ := by
  rw [withSlots_getD G k j xs hk]; split
  · rename_i e; rw [e]
  · rfl
theorem withSlots_bytes (G : GSt) (k j : Nat) (xs : List GSlot) (hk : k < G.cs.length) : ((G.withSlots k xs).cs.getD j GCls.no).bytes = (G.cs.getD j GCls.no).bytes := by
  rw [withSlots_getD G k j xs hk]; split
  · rename_i e; rw [e]
  · rfl
theorem withSlots_len (G : GSt) (k : Nat) (xs : List GSlot) : (G.withSlots k xs).cs.length = G.cs.length := by simp [GSt.withSlots]

theorem flat_set_same {α : Type} (enc : α → List Value) (xs : List α) (k : Nat) (x' d : α) (h : k < xs.length → enc x' = enc (xs.getD k d)) : (xs.set k x').flatMap enc = xs.flatMap enc := by
  induction xs generalizing k with
  | nil => rfl
  | cons x xs ih =>
    cases k with
    | zero => simp at h; simp [h]
    | succ k => simp only [List.set_cons_succ, List.flatMap_cons]; rw [ih k (by intro hk; simpa using h (by simpa using hk))]

theorem GRep.setSlots {w w' : World} {p : Nat} {vc : Value} {bb : Nat} {G : GSt} (h : GRep w p vc bb G) (k : Nat) (hk : k < G.cs.length) (xs : List GSlot) (hl : xs.length = (G.cs.getD k GCls.no).slots.length)
    (hkp : Kept w w' (· = (G.cs.getD k GCls.no).sb)) (hb : Blk w' (G.cs.getD k GCls.no).sb 97 (xs.flatMap slotCells)) : GRep w' p vc bb (G.withSlots k xs) := by
  have hS := h.apS k hk
  refine ⟨?_, ?_, fun j hj => ?_, ?_, h.apC, h.apB, h.apCB, fun j hj => ?_, fun i j hi hj hij => ?_⟩
  · exact (hkp.block p h.blk.lt (fun e => hS.1 e.symm)).trans h.blk
  · rw [withSlots_len]
    have e : (G.withSlots k xs).cs.flatMap gclsCells = G.cs.flatMap gclsCells := flat_set_same gclsCells G.cs k _ GCls.no (fun _ => by simp [gclsCells, hl])
    rw [e]
    exact row_kept h.cls fun g hg => hkp.block g (row_lt h.cls hg) (fun e => hS.2.2 (e ▸ hg))
  · rw [withSlots_len] at hj
    rw [withSlots_getD G k j xs hk]
    split
    · exact hb
    · rename_i e
      exact (hkp.block _ (h.slots j hj).lt (h.apSS j k hj hk e)).trans (h.slots j hj)
  · exact (hkp.block bb h.mem.lt (fun e => hS.2.1 e.symm)).trans h.mem
  · rw [withSlots_len] at hj
    rw [withSlots_sb G k j xs hk]; exact h.apS j hj
  · rw [withSlots_len] at hi hj
    rw [withSlots_sb G k i xs hk, withSlots_sb G k j xs hk]; exact h.apSS i j hi hj hij

theorem withSlots_foot (G : GSt) (k : Nat) (xs : List GSlot) (hk : k < G.cs.length) (p : Nat) (vc : Value) (bb b : Nat) : GFoot p vc bb (G.withSlots k xs) b ↔ GFoot p vc bb G b := by
  unfold GFoot
  rw [withSlots_len]
  constructor <;> rintro (h | h | h | ⟨j, hj, h⟩)
  · exact .inl h
  · exact .inr (.inl h)
  · exact .inr (.inr (.inl h))
  · exact .inr (.inr (.inr ⟨j, hj, by rw [h, withSlots_sb G k j xs hk]⟩))
  · exact .inl h
  · exact .inr (.inl h)
  · exact .inr (.inr (.inl h))
  · exact .inr (.inr (.inr ⟨j, hj, by rw [h, withSlots_sb G k j xs hk]⟩))

/-- m noughts from b on -/
def clearTo (mem : List Int) (b : Nat) : Nat → List Int
  | 0 => mem
  | m + 1 => (clearTo mem b m).set (b + m) 0
theorem clearTo_len (mem : List Int) (b m : Nat) : (clearTo mem b m).length = mem.length := by
  induction m with
  | zero => rfl
  | succ m ih => simp [clearTo, ih]

set_option maxRecDepth 100000 in
set_option maxHeartbeats 1000000 in
theorem clear_any (p : Nat) (vc : Value) (bb : Nat) (G : GSt) (b n : Nat) (w : World) (h : GRep w p vc bb G) (hbn : b + n ≤ G.mem.length) (hsm : G.mem.length ≤ 1000000) :
    Calls Try.prog 83 #[.pointer (some ⟨p, 0, none⟩), .int .i64 (b : Int), .int .i64 (n : Int)] w fun e w' => e = .returned (.tuple #[]) ∧ GRep w' p vc bb ⟨G.st, G.rest, G.cs, clearTo G.mem b n⟩ ∧ Kept w w' (· = bb) := by
  have HR : Hid (GRep w p vc bb G) := h
  clear h
  go_enter Try.func83, Try.ntmps83
  go_wp2
  go_loopw [6] (fun i wr => ∃ m : Nat, m ≤ n ∧ i = .int .i64 ((b : Int) + m) ∧ Kept w wr (· = bb) ∧ Blk wr bb 5 ((clearTo G.mem b m).map (Value.int .u8))) (fun i _ => b + n - (intOf i).toNat)
  case atStart => exact ⟨0, by omega, by simp, ⟨rfl, rfl, rfl, Nat.le_refl _, fun _ _ _ => rfl⟩, HR.out.mem⟩
  case round =>
    obtain ⟨m, hm, rfl, hk, hbk⟩ := hrel
    have hblk : Blk wr p 82 [.int .i64 G.st, .int .i64 G.rest, vc, .slice (some ⟨bb, 0, none⟩) G.mem.length G.mem.length] := (hk.block p HR.out.blk.lt (fun e => HR.out.apB e.symm)).trans HR.out.blk
    have c3 := hblk.cell (j := 3) rfl
    have HK : Hid (Kept w wr (· = bb)) := hk
    by_cases hlt : m < n
    · have hlen := clearTo_len G.mem b m
      have hs := hbk.setCell (b + m) (.int .u8 0)
      rw [show ((clearTo G.mem b m).map (Value.int .u8)).set (b + m) (.int .u8 0) = (clearTo G.mem b (m + 1)).map (Value.int .u8) by simp [clearTo, List.map_set]] at hs
      have ci := hbk.cell (j := b + m) (v := .int .u8 ((clearTo G.mem b m)[b + m]'(by omega))) (by rw [List.getElem?_map, List.getElem?_eq_getElem (by omega)]; rfl)
      have fi := hbk.frozen (b + m)
      generalize (clearTo G.mem b m)[b + m]'(by omega) = v0 at ci
      have e1 : ((b : Int) + (m : Int)).toNat = b + m := by omega
      have i0 : (0 : Int) ≤ (b : Int) + (m : Int) := by omega
      have i1 : (b : Int) + (m : Int) < (G.mem.length : Int) := by omega
      have HS : Hid (Blk (wr.setCell ⟨bb, b + m, none⟩ (.int .u8 0)) bb 5 ((clearTo G.mem b (m + 1)).map (Value.int .u8))) := hs
      clear hs hbk hk hblk hlen
      go_wp2
      go_roundw
      case rel => exact ⟨m + 1, by omega, by go_num, ⟨HK.out.os, HK.out.tape, HK.out.output, by rw [World.size_setCell]; exact HK.out.size, fun x hx hs => (Below.heap_setCell wr _ _ x hs).trans (HK.out.block x hx hs)⟩, HS.out⟩
      case measure => simp [intOf]; omega
    · obtain rfl : m = n := by omega
      have hfin := hide2 (HR.out.setMem (clearTo G.mem b m) (clearTo_len _ _ _) hk hbk)
      clear hbk hk hblk
      go_wp2
      go_end0
      exact ⟨rfl, hfin.out, HK.out⟩
end Go.Proofs.Ytjikemhmnkckcab
