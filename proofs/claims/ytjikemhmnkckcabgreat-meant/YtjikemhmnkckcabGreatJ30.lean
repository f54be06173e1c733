import Derived.Test.YtjikemhmnkckcabGreatJ29
namespace Go.Proofs.YtjikemhmnkckcabGreat
open Go.RowKit
section
variable {T : List IT} {B : KSt} {G : GSt} {R : RSt}
theorem KAll.turned (h : KAll B G R) (hT : TOk T B) (of : Nat) (h1 : 1 ≤ of) (h2 : of < T.length) (hl : (T.getD of IT.no).live = true) {G' : GSt} {R' : RSt} (hs : SimB G' R') (e1 : R'.st = R.st) (e2 : R'.rest = R.rest) (e3 : R'.cls = R.cls) (e4 : R'.log = R.log)
 (hout : ∀ a : Int, ¬ (iBase R.st R.cls T of ≤ a ∧ a < iBase R.st R.cls T of + (T.getD of IT.no).cells.length) → R'.byte a = R.byte a) :
 ∃ B', KAll B' G' R' ∧ (∀ o, bp B' o = bp B o) ∧ B'.F = B.F ∧ B'.now = B.now ∧ B'.st = B.st ∧ B'.rest = B.rest ∧ B'.cls = B.cls ∧ ∀ c : List IC, c.length = (T.getD of IT.no).cells.length → TOk (T.set of ((T.getD of IT.no).withCells c)) B' := by
 have hlen := hT.len
 by_cases e : of = 1
 ·subst e;refine ⟨B, h.away hs e1 e2 e3 e4 (fun a ha => hout a (fun x => ?_)), fun _ => rfl, rfl, rfl, rfl, rfl, rfl, fun c hc => hT.static c hc⟩;have hb : iBase R.st R.cls T 1 = 16 := by unfold iBase; rw [if_pos (by rw [hT.t1.1]; decide)]
  have := hT.t1.2.2;have := h.ok.st;rw [hb] at x;omega
 ·obtain ⟨q1, q2, q3, q4⟩ := hT.tn (of - 2) (by omega);rw [show of - 2 + 2 = of by omega] at q1 q2 q3 q4;have hlv : (B.L.getD (of - 2) KBlk.no).live = true := by rw [← q3]; exact hl
  obtain ⟨k, s, hli⟩ := h.ok.live (of - 2) (by omega) hlv
  have hb : iBase R.st R.cls T of = Cf.begin_ R.st R.cls k s := by
   unfold iBase;rw [q1, q2, hli.ek, hli.es, if_neg (by omega), Int.toNat_natCast]
  obtain ⟨want, hw⟩ : ∃ want : List Int, want = (List.range (B.L.getD (of - 2) KBlk.no).want.length).map (fun t => R'.byte (Cf.begin_ R.st R.cls k s + (t : Nat))) := ⟨_, rfl⟩
  have hwl : want.length = (B.L.getD (of - 2) KBlk.no).want.length := by rw [hw]; simp
  have hks : ∀ k' s' : Nat, KLive R (B.L.getD (of - 2) KBlk.no) k' s' → k' = k ∧ s' = s := fun k' s' hx => by
   have := hx.ek; have := hx.es; have := hli.ek; have := hli.es; omega
  refine ⟨_, h.bytes (of - 2) (by omega) hlv hs e1 e2 e3 e4 want hwl (fun k' s' hx t ht => ?_) (fun k' s' a hx hne => ?_), fun o => bp_set (B := B) (of - 2) (by omega) ((B.L.getD (of - 2) KBlk.no).withWant want) rfl _ _ o, rfl, rfl, rfl, rfl, rfl, fun c hc => ?_⟩
  ·obtain ⟨rfl, rfl⟩ := hks k' s' hx;rw [hwl] at ht;rw [hw, List.getD_eq_getElem?_getD, List.getElem?_map, List.getElem?_range ht];rfl
  ·obtain ⟨rfl, rfl⟩ := hks k' s' hx;refine hout a (fun x => ?_);rw [hb, q4] at x;exact hne (a - Cf.begin_ R.st R.cls k' s').toNat (by omega) (by omega)
  ·have := hT.set (of - 2) (by omega) ((B.L.getD (of - 2) KBlk.no).withWant want) ((T.getD of IT.no).withCells c) q1 q2 q3 (by show c.length = want.length; rw [hc, hwl, q4]) (by show c.length ≤ 1000; rw [hc]; exact hT.sm of) B.F B.now;rw [show of - 2 + 2 = of by omega] at this;exact this
end
section
variable {T : List IT} {B : KSt} {G : GSt} {R : RSt}
theorem KAll.block_at (h : KAll B G R) (hT : TOk T B) (of : Nat) (h1 : 2 ≤ of) (h2 : of < T.length) (hl : (T.getD of IT.no).live = true) :
 ∃ k s : Nat, KLive R (B.L.getD (of - 2) KBlk.no) k s ∧ iBase R.st R.cls T of = Cf.begin_ R.st R.cls k s ∧ (T.getD of IT.no).cells.length = (B.L.getD (of - 2) KBlk.no).want.length ∧ 16 * (1 + R.st) ≤ Cf.begin_ R.st R.cls k s := by
 have hlen := hT.len;obtain ⟨q1, q2, q3, q4⟩ := hT.tn (of - 2) (by omega);rw [show of - 2 + 2 = of by omega] at q1 q2 q3 q4;obtain ⟨k, s, hli⟩ := h.ok.live (of - 2) (by omega) (by rw [← q3]; exact hl);have hst := h.ok.simb.sim.rok.conf;have hg : 2 + R.st ≤ Cf.gran R.st R.cls k := gran_ge hst k (by have := hli.hk; omega);have hp : 0 ≤ (s : Int) * Cf.gr R.cls k := Int.mul_nonneg (by omega) (by have := hst.g0 k hli.hk; omega);refine ⟨k, s, hli, ?_, q4, by unfold Cf.begin_; omega⟩;unfold iBase;rw [q1, q2, hli.ek, hli.es, if_neg (by omega), Int.toNat_natCast]
theorem KAll.static_at (h : KAll B G R) (hT : TOk T B) : iBase R.st R.cls T 1 = 16 ∧ ((T.getD 1 IT.no).cells.length : Int) = 16 * R.st := by
 refine ⟨by unfold iBase; rw [if_pos (by rw [hT.t1.1]; decide)], ?_⟩;rw [← h.ok.st]; exact hT.t1.2.2
theorem KAll.things_apart (h : KAll B G R) (hT : TOk T B) (a b : Nat) (a1 : 1 ≤ a) (a2 : a < T.length) (la : (T.getD a IT.no).live = true) (b1 : 1 ≤ b) (b2 : b < T.length) (lb : (T.getD b IT.no).live = true) (hne : a ≠ b) (t : Nat) (ht : t < (T.getD a IT.no).cells.length) :
 ¬ (iBase R.st R.cls T b ≤ iBase R.st R.cls T a + t ∧ iBase R.st R.cls T a + t < iBase R.st R.cls T b + (T.getD b IT.no).cells.length) := by
 intro hx;have hlen := hT.len;obtain ⟨s1, s2⟩ := h.static_at hT
 by_cases ea : a = 1
 ·subst ea;obtain ⟨k, s, _, e1, e2, e3⟩ := h.block_at hT b (by omega) b2 lb;omega
 ·obtain ⟨k, s, hk, e1, e2, e3⟩ := h.block_at hT a (by omega) a2 la
  by_cases eb : b = 1
  ·subst eb; omega
  ·obtain ⟨k', s', hk', f1, f2, f3⟩ := h.block_at hT b (by omega) b2 lb;have la' := (hT.tn (a - 2) (by omega)).2.2.1;have lb' := (hT.tn (b - 2) (by omega)).2.2.1;rw [show a - 2 + 2 = a by omega, la] at la';rw [show b - 2 + 2 = b by omega, lb] at lb'
   have hks : ¬ (k = k' ∧ s = s') := fun y => hne (by
    have := h.ok.uniq (a - 2) (b - 2) (by omega) (by omega) la'.symm lb'.symm (by rw [hk.ek, hk'.ek, y.1]) (by rw [hk.es, hk'.es, y.2]);omega)
   rw [e1, f1, f2] at hx;exact KLive.apart h.ok.simb.sim.rok.conf h.ok.simb.fits hk hk' hks t (Cf.begin_ R.st R.cls k s + t - Cf.begin_ R.st R.cls k' s').toNat (by omega) (by omega) (by omega)
end
def iPut (l : List IC) (v : Nat) (new : List IC) : List IC := l.take v ++ new ++ l.drop (v + new.length)
theorem iPut_len (l : List IC) (v : Nat) (new : List IC) (h : v + new.length ≤ l.length) : (iPut l v new).length = l.length := by
 unfold iPut; simp; omega
theorem iPut_getD (l : List IC) (v : Nat) (new : List IC) (h : v + new.length ≤ l.length) (t : Nat) : (iPut l v new).getD t IC.no = if v ≤ t ∧ t < v + new.length then new.getD (t - v) IC.no else l.getD t IC.no := by
 unfold iPut;have hv : (l.take v).length = v := by simp; omega
 rw [List.getD_eq_getElem?_getD, List.append_assoc]
 by_cases c1 : t < v
 ·rw [if_neg (by omega), List.getElem?_append_left (by omega), List.getElem?_take_of_lt c1, ← List.getD_eq_getElem?_getD]
 ·rw [List.getElem?_append_right (by omega), hv]
  by_cases c2 : t < v + new.length
  ·rw [if_pos ⟨by omega, c2⟩, List.getElem?_append_left (by omega), ← List.getD_eq_getElem?_getD]
  ·rw [if_neg (by omega), List.getElem?_append_right (by omega), List.getElem?_drop, show v + new.length + (t - v - new.length) = t by omega, ← List.getD_eq_getElem?_getD]
section
variable {T : List IT} {B : KSt} {G : GSt} {R : RSt}
theorem KAll.others (h : KAll B G R) (hT : TOk T B) (of : Nat) (h1 : 1 ≤ of) (h2 : of < T.length) (hl : (T.getD of IT.no).live = true) {R' : RSt} {B' : KSt} (e1 : R'.st = R.st) (e3 : R'.cls = R.cls)
 (hout : ∀ a : Int, ¬ (iBase R.st R.cls T of ≤ a ∧ a < iBase R.st R.cls T of + (T.getD of IT.no).cells.length) → R'.byte a = R.byte a) (hb : ∀ o, bp B' o = bp B o) (y : IT)
 (o : Nat) (o1 : 1 ≤ o) (o2 : o < T.length) (ol : (T.getD o IT.no).live = true) (hne : o ≠ of) (hc : CellsOk T B R o) : CellsOk (T.set of y) B' R' o := by
 have hg : (T.set of y).getD o IT.no = T.getD o IT.no := by rw [getD_setT _ _ _ _ h2, if_neg hne]
 have hbs : iBase R'.st R'.cls (T.set of y) o = iBase R.st R.cls T o := by unfold iBase; rw [hg, e1, e3]
 intro t ht;rw [hg] at ht ⊢;rw [hbs, hout _ (h.things_apart hT o of o1 o2 ol h1 h2 hl hne t ht)];exact (hc t ht).of (by simp) (fun x _ => hb x)
end
section
variable {T : List IT} {B : KSt} {G : GSt} {R : RSt}
theorem KAll.store (h : KAll B G R) (hT : TOk T B) (of : Nat) (h1 : 1 ≤ of) (h2 : of < T.length) (hl : (T.getD of IT.no).live = true) (v : Nat) (n : Nat) (hn : n = 1 ∨ n = 8) (v1 : v + n ≤ (T.getD of IT.no).cells.length) (x : Int) :
 R.storeErr (bp B of + v) n = 0 ∧ R.store (bp B of + v) n x = R.stores (iBase R.st R.cls T of + v) x n := by
 have hf := h.fine hT of h1 h2 hl v n (by omega) (by omega) (by omega)
 have he : R.storeErr (bp B of + v) n = 0 := by
  unfold RSt.storeErr;rw [if_neg (by rcases hn with rfl | rfl <;> decide)]; exact hf
 refine ⟨he, ?_⟩;unfold RSt.store;rw [if_pos he, h.place hT of h1 h2 v n (by omega) (by omega) (by omega), Int.toNat_natCast]
theorem CellsOk.stored (of : Nat) (h2 : of < T.length) (hc : CellsOk T B R of) (v : Nat) (new : List IC) (v1 : v + new.length ≤ (T.getD of IT.no).cells.length) (x : Int) {B' : KSt} (hb : ∀ o, bp B' o = bp B o)
 (hnew : ∀ i : Nat, i < new.length → COk T B (new.getD i IC.no) (Ref.stV x i % 256)) :
 CellsOk (T.set of ((T.getD of IT.no).withCells (iPut (T.getD of IT.no).cells v new))) B' (R.stores (iBase R.st R.cls T of + v) x new.length) of := by
 obtain ⟨e1, _, e3, _, _⟩ := RSt.stores_same R (iBase R.st R.cls T of + v) x new.length;have hg : (T.set of ((T.getD of IT.no).withCells (iPut (T.getD of IT.no).cells v new))).getD of IT.no = (T.getD of IT.no).withCells (iPut (T.getD of IT.no).cells v new) := by rw [getD_setT _ _ _ _ h2, if_pos rfl]
 have hbs : iBase (R.stores (iBase R.st R.cls T of + v) x new.length).st (R.stores (iBase R.st R.cls T of + v) x new.length).cls (T.set of ((T.getD of IT.no).withCells (iPut (T.getD of IT.no).cells v new))) of = iBase R.st R.cls T of := by
  rw [e1, e3]; unfold iBase; rw [hg]; rfl
 intro t ht;rw [hg] at ht ⊢;change t < (iPut (T.getD of IT.no).cells v new).length at ht;rw [iPut_len _ _ _ v1] at ht;rw [hbs, RSt.stores_byte];show COk _ _ ((iPut (T.getD of IT.no).cells v new).getD t IC.no) _;rw [iPut_getD _ _ _ v1]
 by_cases c : v ≤ t ∧ t < v + new.length
 ·rw [if_pos c, if_pos (by omega), show (iBase R.st R.cls T of + (t : Int) - (iBase R.st R.cls T of + v)).toNat = t - v by omega];exact (hnew (t - v) (by omega)).of (by simp) (fun o _ => hb o)
 ·rw [if_neg c, if_neg (by omega)];exact (hc t ht).of (by simp) (fun o _ => hb o)
end
structure IFix where
 mb : Nat
 st : Int
 rest : Int
 ca : Option Addr
 ccap : Nat
 cls : List (Int × Int)
 data : ByteArray
 ia : Option Addr
 icap : Nat
 code : List Ins
 inp : ByteArray
 nd : Nat
structure IS where
 T : List IT
 F : List (Int × Int)
 r : List IV
 heard : Nat
 drawn : Nat
 out : ByteArray
 pc : Nat
 next : Nat
 steps : Nat
 en : Int
 ex : Int
def IV.no : IV := ⟨0, 0⟩
def iv (r : List IV) (k : Nat) : IV := r.getD k IV.no
def IS.reg (S : IS) (k : Nat) (v : IV) : IS := ⟨S.T, S.F, S.r.set k v, S.heard, S.drawn, S.out, S.pc, S.next, S.steps, S.en, S.ex⟩
def IS.ends (S : IS) (e : Int) : IS := ⟨S.T, S.F, S.r, S.heard, S.drawn, S.out, S.pc, S.next, S.steps, e, S.ex⟩
def IS.exits (S : IS) (e : Int) : IS := ⟨S.T, S.F, S.r, S.heard, S.drawn, S.out, S.pc, S.next, S.steps, S.en, e⟩
def IS.goes (S : IS) (n : Nat) : IS := ⟨S.T, S.F, S.r, S.heard, S.drawn, S.out, S.pc, n, S.steps, S.en, S.ex⟩
def IS.stands (S : IS) (n : Nat) : IS := ⟨S.T, S.F, S.r, S.heard, S.drawn, S.out, n, S.next, S.steps, S.en, S.ex⟩
def IS.stepped (S : IS) : IS := ⟨S.T, S.F, S.r, S.heard, S.drawn, S.out, S.pc, S.next, S.steps + 1, S.en, S.ex⟩
def IS.says (S : IS) (o : ByteArray) : IS := ⟨S.T, S.F, S.r, S.heard, S.drawn, o, S.pc, S.next, S.steps, S.en, S.ex⟩
def IS.hears (S : IS) (inp : ByteArray) : IS := ⟨S.T, S.F, S.r, hearN inp S.heard, S.drawn, S.out, S.pc, S.next, S.steps, S.en, S.ex⟩
def IS.drew (S : IS) : IS := ⟨S.T, S.F, S.r, S.heard, S.drawn + 1, S.out, S.pc, S.next, S.steps, S.en, S.ex⟩
def IS.heap (S : IS) (T : List IT) (F : List (Int × Int)) : IS := ⟨T, F, S.r, S.heard, S.drawn, S.out, S.pc, S.next, S.steps, S.en, S.ex⟩
def IS.th (S : IS) (of : Nat) : IT := S.T.getD of IT.no
def IS.num (S : IS) (k : Nat) : IS := if (iv S.r k).of = 0 then S else S.ends 102
def iFine (T : List IT) (v : IV) (n : Int) : Bool := decide (0 < v.of ∧ (T.getD v.of IT.no).live = true ∧ 0 ≤ v.n ∧ v.n ≤ ((T.getD v.of IT.no).cells.length : Int) - n)
def iOwns (T : List IT) (v : IV) : Bool := decide (1 < v.of ∧ (T.getD v.of IT.no).live = true ∧ v.n = 0)
def IS.malloc (F : IFix) (S : IS) (size : Int) : IS :=
 if gcls F.cls size < 0 then S
 else if iSlot S.T S.F F.rest F.cls (gcls F.cls size).toNat < 0 then S
 else S.heap (S.T ++ [⟨gcls F.cls size, iSlot S.T S.F F.rest F.cls (gcls F.cls size).toNat, true, 0, List.replicate (16 * Ref.gsz size).toNat IC.no⟩]) S.F
def iNew (F : IFix) (S : IS) (size : Int) : IV :=
 if gcls F.cls size < 0 then ⟨0, 0⟩
 else if iSlot S.T S.F F.rest F.cls (gcls F.cls size).toNat < 0 then ⟨0, 0⟩
 else ⟨S.T.length, 0⟩
def IS.free (S : IS) (of : Nat) : IS := S.heap (S.T.set of (S.th of).off) (S.F ++ [((S.th of).cls, (S.th of).slot)])
def IS.turn (S : IS) (of : Nat) (c : List IC) : IS := S.heap (S.T.set of ((S.th of).withCells c)) S.F
def iCopied (new old : List IC) : List IC := old.take (min old.length new.length) ++ new.drop (min old.length new.length)
def iLaid (n : Int) (w : Nat) : List IC := (List.range w).map fun i => ⟨⟨0, Ref.stV n i % 256⟩, 0⟩
def iParts (v : IV) : List IC := (List.range 8).map fun i => ⟨v, i⟩
def iAt (S : IS) (k : Nat) (c : Int) : IV := ⟨(iv S.r k).of, wrap64 ((iv S.r k).n + c)⟩
def iHalt (S : IS) (a : Nat) : IS := ((S.ends 2).num a).exits (iv S.r a).n
def iSums (S : IS) (op : Int) (a b c : Nat) : IS := match iSum S.T op (iv S.r b) (iv S.r c) with
 | some v => S.reg a v
 | none => (S.ends 102).reg a ⟨0, 0⟩
def iZero (S : IS) (a b : Nat) : IS := if iWithin S.T (iv S.r a) = true then S else if (iv S.r a).n = 0 then (S.num a).goes b else S.num a
def iOut (S : IS) (a : Nat) : IS := (S.num a).says (S.out ++ bOne ((iv S.r a).n % 256))
def iMalloc (F : IFix) (S : IS) (a b : Nat) : IS := if S.drawn < F.nd then ((S.drew.num b).malloc F (iv S.r b).n).reg a (iNew F S (iv S.r b).n) else S.ends 4
def iNothing (v : IV) : Bool := decide (v.of = 0 ∧ v.n = 0)
def iFree (S : IS) (a : Nat) : IS := if iNothing (iv S.r a) = true then S else if iOwns S.T (iv S.r a) = true then S.free (iv S.r a).of else S.ends 102
def iUsable (S : IS) (a b : Nat) : IS := if iOwns S.T (iv S.r b) = true then S.reg a ⟨0, (S.th (iv S.r b).of).cells.length⟩ else S.ends 102
def iGrow (F : IFix) (S : IS) (v : IV) (n : Int) : IS := if (iNew F S n).of = 0 ∨ iNothing v = true then S.malloc F n else ((S.malloc F n).turn S.T.length (iCopied ((S.malloc F n).th S.T.length).cells (S.th v.of).cells)).free v.of
def iRealloc (F : IFix) (S : IS) (a b c : Nat) : IS :=
 if S.drawn < F.nd then
  (if iNothing (iv S.r b) = true ∨ iOwns S.T (iv S.r b) = true then (iGrow F (S.drew.num c) (iv S.r b) (iv S.r c).n).reg a (iNew F S (iv S.r c).n) else S.drew.ends 102)
 else S.ends 4
def iLoad (S : IS) (a b : Nat) (c : Int) : IS :=
 if iFine S.T (iAt S b c) 8 = true then (match iKept (iPart (S.th (iAt S b c).of).cells (iAt S b c).n.toNat 8) with
  | some w => S.reg a w
  | none => (S.ends 102).reg a ⟨0, 0⟩)
 else S.ends 102
def iByte (S : IS) (a b : Nat) (c : Int) : IS :=
 if iFine S.T (iAt S b c) 1 = true then
  (if 0 < ((S.th (iAt S b c).of).cells.getD (iAt S b c).n.toNat IC.no).v.of then S.ends 102 else S).reg a ⟨0, ((S.th (iAt S b c).of).cells.getD (iAt S b c).n.toNat IC.no).v.n⟩
 else S.ends 102
def iStore (S : IS) (a b : Nat) (c : Int) : IS :=
 if iFine S.T (iAt S a c) 8 = true then
  S.turn (iAt S a c).of (iPut (S.th (iAt S a c).of).cells (iAt S a c).n.toNat (if 0 < (iv S.r b).of then iParts (iv S.r b) else iLaid (iv S.r b).n 8))
 else S.ends 102
def iPut1 (S : IS) (a b : Nat) (c : Int) : IS :=
 if iFine S.T (iAt S a c) 1 = true then
  (S.num b).turn (iAt S a c).of (iPut (S.th (iAt S a c).of).cells (iAt S a c).n.toNat (iLaid (iv S.r b).n 1))
 else S.ends 102
def iMove (S : IS) (a b c : Nat) : IS :=
 if (iv S.r c).of ≠ 0 then S.ends 102
 else if (iv S.r c).n = 0 then S
 else if (iv S.r c).n < 0 ∨ 65536 < (iv S.r c).n then S.ends 102
 else if iFine S.T (iv S.r b) (iv S.r c).n = true ∧ iFine S.T (iv S.r a) (iv S.r c).n = true then
  S.turn (iv S.r a).of (iPut (S.th (iv S.r a).of).cells (iv S.r a).n.toNat (iPart (S.th (iv S.r b).of).cells (iv S.r b).n.toNat (iv S.r c).n.toNat))
 else S.ends 102
def iDo (F : IFix) (S : IS) (x : Ins) : IS :=
 if x.op = 0 then iHalt S x.a.toNat
 else if x.op = 1 then S.reg x.a.toNat ⟨0, 256 * x.b + x.c⟩
 else if x.op = 6 then S.goes x.a.toNat
 else if x.op = 7 then iZero S x.a.toNat x.b.toNat
 else if x.op = 8 then (S.hears F.inp).reg x.a.toNat ⟨0, hearV F.inp S.heard⟩
 else if x.op = 9 then iOut S x.a.toNat
 else if x.op = 10 then S.reg x.a.toNat ⟨1, 256 * x.b + x.c⟩
 else if x.op = 11 then iMalloc F S x.a.toNat x.b.toNat
 else if x.op = 12 then iFree S x.a.toNat
 else if x.op = 13 then iRealloc F S x.a.toNat x.b.toNat x.c.toNat
 else if x.op = 14 then iUsable S x.a.toNat x.b.toNat
 else if x.op = 15 then iLoad S x.a.toNat x.b.toNat x.c
 else if x.op = 16 then iByte S x.a.toNat x.b.toNat x.c
 else if x.op = 17 then iStore S x.a.toNat x.b.toNat x.c
 else if x.op = 18 then iPut1 S x.a.toNat x.b.toNat x.c
 else if x.op = 19 then iMove S x.a.toNat x.b.toNat x.c.toNat
 else iSums S x.op x.a.toNat x.b.toNat x.c.toNat
def iStep (F : IFix) (S : IS) : IS := iDo F ((S.stands S.next).stepped.goes (S.next + 1)) (F.code.getD S.next Ins.no)
def iRun (F : IFix) (f : Int) : Nat → IS → IS
 | 0, S => S
 | k + 1, S => if S.en ≠ 0 then S else if F.code.length ≤ S.next then (S.stands S.next).ends 2 else if f ≤ S.steps then (S.stands S.next).ends 3 else iRun F f k (iStep F S)
def iBeg (c : List IC) : IS := ⟨[IT.no, ⟨-1, -1, true, 0, c⟩], [], [IV.no, IV.no, IV.no, IV.no, IV.no, IV.no, IV.no, IV.no], 0, 0, ⟨#[]⟩, 0, 0, 0, 0, 0⟩
structure IGood (F : IFix) (S : IS) : Prop where
 conf : Cf.Valid F.st F.rest F.cls
 len : 2 ≤ S.T.length
 t0 : (S.T.getD 0 IT.no).cls = -1
 t1 : (S.T.getD 1 IT.no).cls = -1
 z0 : (S.T.getD 0 IT.no).cells.length = 0
 tn : ∀ i, 2 ≤ i → i < S.T.length → ∃ k s : Nat, (S.T.getD i IT.no).cls = k ∧ (S.T.getD i IT.no).slot = s ∧ k < F.cls.length ∧ s < (Cf.sl F.cls k).toNat
 sm : ∀ i, (S.T.getD i IT.no).cells.length ≤ 1000
 rv : ∀ k, k < 8 → (iv S.r k).of < S.T.length ∧ -9223372036854775808 ≤ (iv S.r k).n ∧ (iv S.r k).n ≤ 9223372036854775807
 r8 : S.r.length = 8
def icCells (c : IC) : List Value := [.int .i64 (c.v.of : Int), .int .i64 c.v.n, .int .i64 (c.part : Int)]
def itCells (x : IT × Value) : List Value := [.int .i64 x.1.cls, .int .i64 x.1.slot, .bool x.1.live, x.2]
def ivCells (v : IV) : List Value := [.int .i64 (v.of : Int), .int .i64 v.n]
def noRep : List Value := [.int .i64 0, .int .i64 0, .int .i64 0, .int .i64 0, .int .i64 0, .int .i64 0, .int .i64 0, .int .i64 0, .int .i64 0, .slice none 0 0]
def iCells (F : IFix) (vT vF : Value) (r : List IV) (inp : ByteArray) (left next en ex steps pc drawn : Int) (out : ByteArray) : List Value :=
 [.int .i64 F.st, .int .i64 F.rest, .slice F.ca F.cls.length F.ccap, .string F.data, .slice F.ia F.code.length F.icap, vT, vF] ++ r.flatMap ivCells ++ [.string inp, .int .i64 left, .int .i64 next, .int .i64 en, .int .i64 ex, .int .i64 steps, .int .i64 pc, .int .i64 drawn, .string out] ++ noRep
def iInp (inp : ByteArray) (k : Nat) : ByteArray := inp.extract k inp.size
def iC (F : IFix) (S : IS) (vT vF : Value) : List Value :=
 iCells F vT vF S.r (iInp F.inp S.heard) ((F.nd : Int) - S.drawn) S.next S.en S.ex S.steps S.pc S.drawn S.out
def vNo : Value := .slice none 0 0
structure TRow (w : World) (B : Nat) (c : Nat → Nat) (i : Nat) (v : Value) (x : List IC) : Prop where
 ex : ∃ cb, v = .slice (some ⟨cb, 0, none⟩) x.length x.length ∧ Blk w cb 115 (x.flatMap icCells) ∧ B ≤ cb ∧ c cb = 3 + i
structure ISep (B : Nat) (col : Nat → Nat) (mb : Nat) (vT vF : Value) : Prop where
 mb : col mb = 0
 vT : ∀ b, vT.ownBlock = some b → col b = 1 ∧ B ≤ b
 vF : ∀ b, vF.ownBlock = some b → col b = 2 ∧ B ≤ b
structure IRep (F : IFix) (wB w : World) (vT vF : Value) (V : List Value) (col : Nat → Nat) (S : IS) : Prop where
 blk : Blk w F.mb 110 (iC F S vT vF)
 T : w.ownsRow 0 113 4 vT S.T.length ((S.T.zip V).flatMap itCells)
 Fr : w.ownsRow 0 175 2 vF S.F.length (S.F.flatMap spotCells)
 vl : V.length = S.T.length
 v0 : V.getD 0 vNo = vNo
 vn : ∀ i, 1 ≤ i → i < S.T.length → TRow w wB.heap.size col i (V.getD i vNo) (S.T.getD i IT.no).cells
 below : Below wB.heap.size wB w
 hm : wB.heap.size ≤ F.mb
 sep : ISep wB.heap.size col F.mb vT vF
 codeR : IRow wB F.ia F.icap F.code
 clsR : CRow wB F.ca F.ccap F.cls
 r8 : S.r.length = 8
 dl : S.drawn ≤ F.nd
 hl : S.heard ≤ F.inp.size
theorem zip_getD (T : List IT) (V : List Value) (h : V.length = T.length) (i : Nat) (hi : i < T.length) : (T.zip V)[i]? = some (T.getD i IT.no, V.getD i vNo) := by
 rw [List.getElem?_eq_getElem (by rw [List.length_zip]; omega), List.getElem_zip];simp [List.getD_eq_getElem?_getD, List.getElem?_eq_getElem hi, List.getElem?_eq_getElem (show i < V.length by omega)]
theorem thing_cells {w : World} {g : Nat} {T : List IT} {V : List Value} (h : V.length = T.length) (hc : ∀ j u, ((T.zip V).flatMap itCells)[j]? = some u → w.cell? ⟨g, j, none⟩ = some u) (i : Nat) (hi : i < T.length) :
 w.cell? ⟨g, i * 4, none⟩ = some (.int .i64 (T.getD i IT.no).cls) ∧ w.cell? ⟨g, i * 4 + 1, none⟩ = some (.int .i64 (T.getD i IT.no).slot) ∧ w.cell? ⟨g, i * 4 + 2, none⟩ = some (.bool (T.getD i IT.no).live) ∧ w.cell? ⟨g, i * 4 + 3, none⟩ = some (V.getD i vNo) := by
 have h6 : ∀ j, j < 4 → ((T.zip V).flatMap itCells)[i * 4 + j]? = (itCells (T.getD i IT.no, V.getD i vNo))[j]? := fun j hj => by
  rw [flat_get itCells 4 (fun _ => rfl) (T.zip V) i j hj, zip_getD T V h i hi]; rfl
 have hx := fun j (hj : j < 4) u hu => hc (i * 4 + j) u (by rw [h6 j hj]; exact hu)
 exact ⟨hx 0 (by omega) _ rfl, hx 1 (by omega) _ rfl, hx 2 (by omega) _ rfl, hx 3 (by omega) _ rfl⟩
theorem eightV {r : List IV} (h : r.length = 8) : ∃ r0 r1 r2 r3 r4 r5 r6 r7, r = [r0, r1, r2, r3, r4, r5, r6, r7] := by
 match r, h with
 | [r0, r1, r2, r3, r4, r5, r6, r7], _ => exact ⟨r0, r1, r2, r3, r4, r5, r6, r7, rfl⟩
theorem iv_cells (F : IFix) (vT vF : Value) (r : List IV) (inp : ByteArray) (left next en ex steps pc drawn : Int) (out : ByteArray) (h : r.length = 8) (k j : Nat) (hk : k < 8) (hj : j < 2) : (iCells F vT vF r inp left next en ex steps pc drawn out)[7 + k * 2 + j]? = (ivCells (iv r k))[j]? := by
 have hl : (r.flatMap ivCells).length = 16 := by rw [flat_len ivCells 2 (fun _ => rfl)]; omega
 unfold iCells;rw [List.append_assoc, List.append_assoc, List.getElem?_append_right (by simp; omega), List.getElem?_append_left (by simp only [List.length_cons, List.length_nil]; omega)];simp only [List.length_cons, List.length_nil];rw [show 7 + k * 2 + j - (0 + 1 + 1 + 1 + 1 + 1 + 1 + 1) = k * 2 + j by omega, flat_get ivCells 2 (fun _ => rfl) r k j hj, List.getElem?_eq_getElem (by omega)];unfold iv;simp [List.getD_eq_getElem?_getD, List.getElem?_eq_getElem (show k < r.length by omega)]
theorem flat_set2 (r : List IV) (k : Nat) (hk : k < r.length) (v : IV) : ((r.flatMap ivCells).set (k * 2) (.int .i64 (v.of : Int))).set (k * 2 + 1) (.int .i64 v.n) = (r.set k v).flatMap ivCells := by
 induction r generalizing k with
 | nil => simp at hk
 | cons x r ih =>
   cases k with
   | zero => rfl
   | succ k =>
     rw [List.set_cons_succ, List.flatMap_cons, List.flatMap_cons, ← ih k (by simpa using hk), List.set_append_right _ _ (by simp [ivCells]; omega), List.set_append_right _ _ (by simp [ivCells]; omega)];simp only [ivCells, List.length_cons, List.length_nil];rw [show (k + 1) * 2 - (0 + 1 + 1) = k * 2 by omega, show (k + 1) * 2 + 1 - (0 + 1 + 1) = k * 2 + 1 by omega]
theorem set_mid (A R C : List Value) (i : Nat) (x : Value) (hi : i < R.length) : (A ++ (R ++ C)).set (A.length + i) x = A ++ (R.set i x ++ C) := by
 rw [List.set_append_right _ _ (by omega), show A.length + i - A.length = i by omega, List.set_append_left _ _ hi]
theorem iv_set2 (F : IFix) (vT vF : Value) (r : List IV) (inp : ByteArray) (left next en ex steps pc drawn : Int) (out : ByteArray) (h : r.length = 8) (k : Nat) (hk : k < 8) (v : IV) :
 ((iCells F vT vF r inp left next en ex steps pc drawn out).set (7 + k * 2) (.int .i64 (v.of : Int))).set (7 + k * 2 + 1) (.int .i64 v.n) = iCells F vT vF (r.set k v) inp left next en ex steps pc drawn out := by
 have hl : (r.flatMap ivCells).length = 16 := by rw [flat_len ivCells 2 (fun _ => rfl)]; omega
 unfold iCells;rw [← flat_set2 r k (by omega) v];simp only [List.append_assoc]
 exact (congrArg (fun l => List.set l (7 + k * 2 + 1) (Value.int .i64 v.n)) (set_mid [.int .i64 F.st, .int .i64 F.rest, .slice F.ca F.cls.length F.ccap, .string F.data, .slice F.ia F.code.length F.icap, vT, vF] (r.flatMap ivCells) _ (k * 2) (.int .i64 (v.of : Int)) (by omega))).trans
  (set_mid [.int .i64 F.st, .int .i64 F.rest, .slice F.ca F.cls.length F.ccap, .string F.data, .slice F.ia F.code.length F.icap, vT, vF] ((r.flatMap ivCells).set (k * 2) (.int .i64 (v.of : Int))) _ (k * 2 + 1) (.int .i64 v.n) (by rw [List.length_set]; omega))
section
variable {F : IFix} {wB w w' : World} {vT vF : Value} {V : List Value} {col : Nat → Nat} {S S' : IS}
theorem TRow.kept {B i : Nat} {v : Value} {x : List IC} (h : TRow w B col i v x) (hk : ∀ b, v.ownBlock = some b → w'.heap[b]? = w.heap[b]?) : TRow w' B col i v x := by
 obtain ⟨cb, e, hb, h1, h2⟩ := h.ex;exact ⟨cb, e, (hk cb (by rw [e]; rfl)).trans hb, h1, h2⟩
theorem TRow.lt {B i : Nat} {v : Value} {x : List IC} (h : TRow w B col i v x) {b : Nat} (hb : v.ownBlock = some b) : b < w.heap.size ∧ col b = 3 + i ∧ B ≤ b := by
 obtain ⟨cb, e, hk, h1, h2⟩ := h.ex;rw [e] at hb;simp [Value.ownBlock] at hb;subst hb;exact ⟨hk.lt, h2, h1⟩
theorem IRep.under (h : IRep F wB w vT vF V col S) (hb : Below w.heap.size w w') : IRep F wB w' vT vF V col S :=
 ⟨h.blk.below hb h.blk.lt, row_below h.T hb (fun _ hg => row_lt h.T hg), row_below h.Fr hb (fun _ hg => row_lt h.Fr hg), h.vl, h.v0, fun i h1 hi => (h.vn i h1 hi).kept (fun b hbb => hb.block b ((h.vn i h1 hi).lt hbb).1), h.below.trans (hb.mono h.below.size), h.hm, h.sep, h.codeR, h.clsR, h.r8, h.dl, h.hl⟩
theorem kept_below {X : Nat → Prop} (hb : Below wB.heap.size wB w) (hk : Kept w w' X) (hX : ∀ b, X b → wB.heap.size ≤ b) : Below wB.heap.size wB w' :=
 ⟨by rw [hk.os, hb.os], by rw [hk.tape, hb.tape], by rw [hk.output, hb.output], Nat.le_trans hb.size hk.size, fun k hkk => (hk.block k (Nat.lt_of_lt_of_le hkk hb.size) (fun e => by have := hX k e; omega)).trans (hb.block k hkk)⟩
theorem IRep.colT (h : IRep F wB w vT vF V col S) {b : Nat} (hb : vT.ownBlock = some b) : col b = 1 := (h.sep.vT b hb).1
theorem IRep.colF (h : IRep F wB w vT vF V col S) {b : Nat} (hb : vF.ownBlock = some b) : col b = 2 := (h.sep.vF b hb).1
theorem IRep.colV (h : IRep F wB w vT vF V col S) {i : Nat} (h1 : 1 ≤ i) (hi : i < S.T.length) {b : Nat} (hb : (V.getD i vNo).ownBlock = some b) : col b = 3 + i := ((h.vn i h1 hi).lt hb).2.1
theorem IRep.own (h : IRep F wB w vT vF V col S) (hk : Kept w w' (· = F.mb)) (hb : Blk w' F.mb 110 (iC F S' vT vF)) (hT : S'.T = S.T) (hF : S'.F = S.F) (h8 : S'.r.length = 8) (hd : S'.drawn ≤ F.nd) (hh : S'.heard ≤ F.inp.size) : IRep F wB w' vT vF V col S' := by
 have hc : ∀ b, col b ≠ 0 → b ≠ F.mb := fun b hb e => hb (by rw [e]; exact h.sep.mb)
 refine ⟨hb, ?_, ?_, by rw [hT]; exact h.vl, h.v0, ?_, kept_below h.below hk (fun b e => by rw [e]; exact h.hm), h.hm, h.sep, h.codeR, h.clsR, h8, hd, hh⟩
 ·rw [hT]; exact row_kept h.T fun g hg => hk.block g (row_lt h.T hg) (hc g (by rw [h.colT hg]; decide))
 ·rw [hF]; exact row_kept h.Fr fun g hg => hk.block g (row_lt h.Fr hg) (hc g (by rw [h.colF hg]; decide))
 ·rw [hT]; exact fun i h1 hi => (h.vn i h1 hi).kept fun b hb => hk.block b ((h.vn i h1 hi).lt hb).1 (hc b (by rw [h.colV h1 hi hb]; omega))
theorem IRep.blk8 (h : IRep F wB w vT vF V col S) : ∃ r0 r1 r2 r3 r4 r5 r6 r7, S.r = [r0, r1, r2, r3, r4, r5, r6, r7] ∧ Blk w F.mb 110 (iCells F vT vF [r0, r1, r2, r3, r4, r5, r6, r7] (iInp F.inp S.heard) ((F.nd : Int) - S.drawn) S.next S.en S.ex S.steps S.pc S.drawn S.out) := by
 obtain ⟨r0, r1, r2, r3, r4, r5, r6, r7, hr⟩ := eightV h.r8;have hb := h.blk;unfold iC at hb;rw [hr] at hb;exact ⟨_, _, _, _, _, _, _, _, hr, hb⟩
theorem IRep.cOf (h : IRep F wB w vT vF V col S) (k : Nat) (hk : k < 8) : w.cell? ⟨F.mb, 7 + k * 2, none⟩ = some (.int .i64 ((iv S.r k).of : Int)) := h.blk.cell (by
 have := iv_cells F vT vF S.r (iInp F.inp S.heard) ((F.nd : Int) - S.drawn) S.next S.en S.ex S.steps S.pc S.drawn S.out h.r8 k 0 hk (by omega);exact this)
theorem IRep.cN (h : IRep F wB w vT vF V col S) (k : Nat) (hk : k < 8) : w.cell? ⟨F.mb, 7 + k * 2 + 1, none⟩ = some (.int .i64 (iv S.r k).n) := h.blk.cell (by
 have := iv_cells F vT vF S.r (iInp F.inp S.heard) ((F.nd : Int) - S.drawn) S.next S.en S.ex S.steps S.pc S.drawn S.out h.r8 k 1 hk (by omega);exact this)
theorem IRep.setReg (h : IRep F wB w vT vF V col S) (k : Nat) (hk : k < 8) (v : IV) : IRep F wB ((w.setCell ⟨F.mb, 7 + k * 2, none⟩ (.int .i64 (v.of : Int))).setCell ⟨F.mb, 7 + k * 2 + 1, none⟩ (.int .i64 v.n)) vT vF V col (S.reg k v) := by
 have hb := (h.blk.setCell (7 + k * 2) (.int .i64 (v.of : Int))).setCell (7 + k * 2 + 1) (.int .i64 v.n);unfold iC at hb;rw [iv_set2 _ _ _ _ _ _ _ _ _ _ _ _ _ h.r8 k hk v] at hb;exact h.own (((Kept.refl w (· = F.mb)).setCell _ _ rfl).setCell _ _ rfl) hb rfl rfl (by show (S.r.set k v).length = 8; rw [List.length_set]; exact h.r8) h.dl h.hl
theorem IRep.setNext (h : IRep F wB w vT vF V col S) (n : Nat) : IRep F wB (w.setCell ⟨F.mb, 25, none⟩ (.int .i64 (n : Int))) vT vF V col (S.goes n) := by
 obtain ⟨r0, r1, r2, r3, r4, r5, r6, r7, hr, hb⟩ := h.blk8;refine h.own ((Kept.refl w (· = F.mb)).setCell _ _ rfl) ?_ rfl rfl h.r8 h.dl h.hl;unfold iC IS.goes;rw [hr];exact hb.setCell 25 (.int .i64 (n : Int))
theorem IRep.setEn (h : IRep F wB w vT vF V col S) (e : Int) : IRep F wB (w.setCell ⟨F.mb, 26, none⟩ (.int .i64 e)) vT vF V col (S.ends e) := by
 obtain ⟨r0, r1, r2, r3, r4, r5, r6, r7, hr, hb⟩ := h.blk8;refine h.own ((Kept.refl w (· = F.mb)).setCell _ _ rfl) ?_ rfl rfl h.r8 h.dl h.hl;unfold iC IS.ends;rw [hr];exact hb.setCell 26 (.int .i64 e)
theorem IRep.setEx (h : IRep F wB w vT vF V col S) (e : Int) : IRep F wB (w.setCell ⟨F.mb, 27, none⟩ (.int .i64 e)) vT vF V col (S.exits e) := by
 obtain ⟨r0, r1, r2, r3, r4, r5, r6, r7, hr, hb⟩ := h.blk8;refine h.own ((Kept.refl w (· = F.mb)).setCell _ _ rfl) ?_ rfl rfl h.r8 h.dl h.hl;unfold iC IS.exits;rw [hr];exact hb.setCell 27 (.int .i64 e)
theorem IRep.setSteps (h : IRep F wB w vT vF V col S) : IRep F wB (w.setCell ⟨F.mb, 28, none⟩ (.int .i64 ((S.steps + 1 : Nat) : Int))) vT vF V col (S.stepped) := by
 obtain ⟨r0, r1, r2, r3, r4, r5, r6, r7, hr, hb⟩ := h.blk8;refine h.own ((Kept.refl w (· = F.mb)).setCell _ _ rfl) ?_ rfl rfl h.r8 h.dl h.hl;unfold iC IS.stepped;rw [hr];exact hb.setCell 28 (.int .i64 ((S.steps + 1 : Nat) : Int))
theorem IRep.setPc (h : IRep F wB w vT vF V col S) (n : Nat) : IRep F wB (w.setCell ⟨F.mb, 29, none⟩ (.int .i64 (n : Int))) vT vF V col (S.stands n) := by
 obtain ⟨r0, r1, r2, r3, r4, r5, r6, r7, hr, hb⟩ := h.blk8;refine h.own ((Kept.refl w (· = F.mb)).setCell _ _ rfl) ?_ rfl rfl h.r8 h.dl h.hl;unfold iC IS.stands;rw [hr];exact hb.setCell 29 (.int .i64 (n : Int))
theorem IRep.setOut (h : IRep F wB w vT vF V col S) (o : ByteArray) : IRep F wB (w.setCell ⟨F.mb, 31, none⟩ (.string o)) vT vF V col (S.says o) := by
 obtain ⟨r0, r1, r2, r3, r4, r5, r6, r7, hr, hb⟩ := h.blk8;refine h.own ((Kept.refl w (· = F.mb)).setCell _ _ rfl) ?_ rfl rfl h.r8 h.dl h.hl;unfold iC IS.says;rw [hr];exact hb.setCell 31 (.string o)
theorem IRep.setDraw (h : IRep F wB w vT vF V col S) (hd : S.drawn < F.nd) : IRep F wB ((w.setCell ⟨F.mb, 24, none⟩ (.int .i64 ((F.nd : Int) - ((S.drawn + 1 : Nat) : Int)))).setCell ⟨F.mb, 30, none⟩ (.int .i64 ((S.drawn + 1 : Nat) : Int))) vT vF V col S.drew := by
 obtain ⟨r0, r1, r2, r3, r4, r5, r6, r7, hr, hb⟩ := h.blk8;refine h.own (((Kept.refl w (· = F.mb)).setCell _ _ rfl).setCell _ _ rfl) ?_ rfl rfl h.r8 (by show S.drawn + 1 ≤ F.nd; omega) h.hl;unfold iC IS.drew;rw [hr];exact (hb.setCell 24 _).setCell 30 _
theorem IRep.c0 (h : IRep F wB w vT vF V col S) : w.cell? ⟨F.mb, 0, none⟩ = some (.int .i64 F.st) := by
 obtain ⟨r0, r1, r2, r3, r4, r5, r6, r7, hr, hb⟩ := h.blk8;exact hb.cell (j := 0) rfl
theorem IRep.c1 (h : IRep F wB w vT vF V col S) : w.cell? ⟨F.mb, 1, none⟩ = some (.int .i64 F.rest) := by
 obtain ⟨r0, r1, r2, r3, r4, r5, r6, r7, hr, hb⟩ := h.blk8;exact hb.cell (j := 1) rfl
theorem IRep.c2 (h : IRep F wB w vT vF V col S) : w.cell? ⟨F.mb, 2, none⟩ = some (.slice F.ca F.cls.length F.ccap) := by
 obtain ⟨r0, r1, r2, r3, r4, r5, r6, r7, hr, hb⟩ := h.blk8;exact hb.cell (j := 2) rfl
theorem IRep.c5 (h : IRep F wB w vT vF V col S) : w.cell? ⟨F.mb, 5, none⟩ = some (vT) := by
 obtain ⟨r0, r1, r2, r3, r4, r5, r6, r7, hr, hb⟩ := h.blk8;exact hb.cell (j := 5) rfl
theorem IRep.c6 (h : IRep F wB w vT vF V col S) : w.cell? ⟨F.mb, 6, none⟩ = some (vF) := by
 obtain ⟨r0, r1, r2, r3, r4, r5, r6, r7, hr, hb⟩ := h.blk8;exact hb.cell (j := 6) rfl
theorem IRep.c23 (h : IRep F wB w vT vF V col S) : w.cell? ⟨F.mb, 23, none⟩ = some (.string (iInp F.inp S.heard)) := by
 obtain ⟨r0, r1, r2, r3, r4, r5, r6, r7, hr, hb⟩ := h.blk8;exact hb.cell (j := 23) rfl
theorem IRep.c24 (h : IRep F wB w vT vF V col S) : w.cell? ⟨F.mb, 24, none⟩ = some (.int .i64 ((F.nd : Int) - S.drawn)) := by
 obtain ⟨r0, r1, r2, r3, r4, r5, r6, r7, hr, hb⟩ := h.blk8;exact hb.cell (j := 24) rfl
theorem IRep.c25 (h : IRep F wB w vT vF V col S) : w.cell? ⟨F.mb, 25, none⟩ = some (.int .i64 S.next) := by
 obtain ⟨r0, r1, r2, r3, r4, r5, r6, r7, hr, hb⟩ := h.blk8;exact hb.cell (j := 25) rfl
theorem IRep.c26 (h : IRep F wB w vT vF V col S) : w.cell? ⟨F.mb, 26, none⟩ = some (.int .i64 S.en) := by
 obtain ⟨r0, r1, r2, r3, r4, r5, r6, r7, hr, hb⟩ := h.blk8;exact hb.cell (j := 26) rfl
theorem IRep.c27 (h : IRep F wB w vT vF V col S) : w.cell? ⟨F.mb, 27, none⟩ = some (.int .i64 S.ex) := by
 obtain ⟨r0, r1, r2, r3, r4, r5, r6, r7, hr, hb⟩ := h.blk8;exact hb.cell (j := 27) rfl
theorem IRep.c28 (h : IRep F wB w vT vF V col S) : w.cell? ⟨F.mb, 28, none⟩ = some (.int .i64 S.steps) := by
 obtain ⟨r0, r1, r2, r3, r4, r5, r6, r7, hr, hb⟩ := h.blk8;exact hb.cell (j := 28) rfl
theorem IRep.c29 (h : IRep F wB w vT vF V col S) : w.cell? ⟨F.mb, 29, none⟩ = some (.int .i64 S.pc) := by
 obtain ⟨r0, r1, r2, r3, r4, r5, r6, r7, hr, hb⟩ := h.blk8;exact hb.cell (j := 29) rfl
theorem IRep.c30 (h : IRep F wB w vT vF V col S) : w.cell? ⟨F.mb, 30, none⟩ = some (.int .i64 S.drawn) := by
 obtain ⟨r0, r1, r2, r3, r4, r5, r6, r7, hr, hb⟩ := h.blk8;exact hb.cell (j := 30) rfl
theorem IRep.c31 (h : IRep F wB w vT vF V col S) : w.cell? ⟨F.mb, 31, none⟩ = some (.string S.out) := by
 obtain ⟨r0, r1, r2, r3, r4, r5, r6, r7, hr, hb⟩ := h.blk8;exact hb.cell (j := 31) rfl
theorem IRep.crow (h : IRep F wB w vT vF V col S) : CRow w F.ca F.ccap F.cls := h.clsR.below h.below
theorem IRep.things (h : IRep F wB w vT vF V col S) (hl : 0 < S.T.length) : ∃ g cap, vT = .slice (some ⟨g, 0, none⟩) S.T.length cap ∧ S.T.length ≤ cap ∧ cap ≤ maxLen ∧ g < w.heap.size ∧ (∀ j, w.frozen? ⟨g, j, none⟩ = false) ∧
 ∀ i, i < S.T.length → w.cell? ⟨g, i * 4, none⟩ = some (.int .i64 (S.T.getD i IT.no).cls) ∧ w.cell? ⟨g, i * 4 + 1, none⟩ = some (.int .i64 (S.T.getD i IT.no).slot) ∧ w.cell? ⟨g, i * 4 + 2, none⟩ = some (.bool (S.T.getD i IT.no).live) ∧ w.cell? ⟨g, i * 4 + 3, none⟩ = some (V.getD i vNo) := by
 obtain ⟨a, cap, e, h1, h2, h3⟩ := row_open h.T;obtain ⟨g, rfl, hg, hc, hf⟩ := h3 hl;exact ⟨g, cap, e, h1, h2, hg, hf, fun i hi => thing_cells h.vl hc i hi⟩
end
end Go.Proofs.YtjikemhmnkckcabGreat
