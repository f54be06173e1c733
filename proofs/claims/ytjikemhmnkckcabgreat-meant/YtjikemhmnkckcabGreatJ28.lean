import Derived.Test.YtjikemhmnkckcabGreatJ27
namespace Go.Proofs.YtjikemhmnkckcabGreat
open Go.RowKit
def iOpen (T : List IT) (F : List (Int × Int)) (rest : Int) (k s : Nat) : Bool := !(krests F rest k s || (decide (0 < iLast T k s) && (T.getD (iLast T k s) IT.no).live))
def iSlot (T : List IT) (F : List (Int × Int)) (rest : Int) (cls : List (Int × Int)) (k : Nat) : Int := Ref.firstFrom (iOpen T F rest k) (Cf.sl cls k).toNat 0
def IT.off (x : IT) : IT := ⟨x.cls, x.slot, false, x.cb, x.cells⟩
def IT.withCells (x : IT) (c : List IC) : IT := ⟨x.cls, x.slot, x.live, x.cb, c⟩
theorem getD_setT (T : List IT) (i j : Nat) (x : IT) (hi : i < T.length) : (T.set i x).getD j IT.no = if j = i then x else T.getD j IT.no := by
 simp only [List.getD_eq_getElem?_getD, List.getElem?_set]
 by_cases h : i = j
 ·subst h; simp [hi]
 ·rw [if_neg h, if_neg (fun e => h e.symm)]
theorem getD_appT (T : List IT) (x : IT) (i : Nat) : (T ++ [x]).getD i IT.no = if i = T.length then x else T.getD i IT.no := by
 simp only [List.getD_eq_getElem?_getD]
 by_cases h : i < T.length
 ·rw [List.getElem?_append_left h, if_neg (by omega)]
 ·by_cases e : i = T.length
  ·subst e; simp
  ·rw [if_neg e, List.getElem?_append_right (by omega), List.getElem?_eq_none (by simp; omega), List.getElem?_eq_none (by omega)]
section
variable {T : List IT} {B : KSt} {G : GSt} {R : RSt}
theorem KAll.open_is (h : KAll B G R) (hT : TOk T B) (k s : Nat) : iOpen T B.F B.rest k s = Ref.openB R.log R.rest k s := by
 have hl := h.last_live hT k s;unfold iOpen
 by_cases h3 : Ref.state R.log k s = 3
 ·obtain ⟨h0, hv⟩ := hl.1 h3;rw [decide_eq_true (by omega), hv];unfold Ref.openB;simp [h3]
 ·rw [h.open_ k s h3]
  have : (decide (0 < iLast T k s) && (T.getD (iLast T k s) IT.no).live) = false := by
   cases e : (T.getD (iLast T k s) IT.no).live
   ·simp
   ·rw [Bool.and_true];exact decide_eq_false (fun x => h3 (hl.2 ⟨by omega, e⟩))
  rw [this, Bool.or_false]
theorem KAll.slot_is (h : KAll B G R) (hT : TOk T B) (k : Nat) : iSlot T B.F B.rest B.cls k = Ref.first R.log R.rest R.cls k := by
 unfold iSlot Ref.first;rw [h.ok.cls];exact Ref.firstFrom_congr _ _ _ _ fun j _ _ => h.open_is hT k j
theorem TOk.gives (h : TOk T B) (x : KBlk) (y : IT) (hk : y.cls = x.k) (hs : y.slot = x.s) (hl : y.live = x.live) (hc : y.cells.length = x.want.length) (hz : y.cells.length ≤ 1000) (now : Int) : TOk (T ++ [y]) ⟨B.st, B.rest, B.cls, B.L ++ [x], B.F, now⟩ := by
 have hlen := h.len;refine ⟨by simp; omega, ?_, ?_, fun i hi => ?_, fun i => ?_⟩
 ·rw [getD_appT, if_neg (by omega)]; exact h.t0
 ·rw [getD_appT, if_neg (by omega)]; exact h.t1
 ·show _ = ((B.L ++ [x]).getD i KBlk.no).k ∧ _ = ((B.L ++ [x]).getD i KBlk.no).s ∧ _ = ((B.L ++ [x]).getD i KBlk.no).live ∧ _ = ((B.L ++ [x]).getD i KBlk.no).want.length;change i < (B.L ++ [x]).length at hi;rw [List.length_append, List.length_singleton] at hi;rw [getD_appT, getD_appL]
  by_cases e : i = B.L.length
  ·rw [if_pos (by omega), if_pos e]; exact ⟨hk, hs, hl, hc⟩
  ·rw [if_neg (by omega), if_neg e]; exact h.tn i (by omega)
 ·rw [getD_appT]
  by_cases e : i = T.length
  ·rw [if_pos e]; exact hz
  ·rw [if_neg e]; exact h.sm i
theorem TOk.set (h : TOk T B) (i : Nat) (hi : i < B.L.length) (x : KBlk) (y : IT) (hk : y.cls = x.k) (hs : y.slot = x.s) (hl : y.live = x.live) (hc : y.cells.length = x.want.length) (hz : y.cells.length ≤ 1000) (F : List (Int × Int)) (now : Int) : TOk (T.set (i + 2) y) ⟨B.st, B.rest, B.cls, B.L.set i x, F, now⟩ := by
 have hlen := h.len;refine ⟨by simp; omega, ?_, ?_, fun j hj => ?_, fun j => ?_⟩
 ·rw [getD_setT _ _ _ _ (by omega), if_neg (by omega)]; exact h.t0
 ·rw [getD_setT _ _ _ _ (by omega), if_neg (by omega)]; exact h.t1
 ·show _ = ((B.L.set i x).getD j KBlk.no).k ∧ _ = ((B.L.set i x).getD j KBlk.no).s ∧ _ = ((B.L.set i x).getD j KBlk.no).live ∧ _ = ((B.L.set i x).getD j KBlk.no).want.length;change j < (B.L.set i x).length at hj;rw [List.length_set] at hj;rw [getD_setT _ _ _ _ (by omega), getD_setL _ _ _ _ hi]
  by_cases e : j = i
  ·rw [if_pos (by omega), if_pos e]; exact ⟨hk, hs, hl, hc⟩
  ·rw [if_neg (by omega), if_neg e]; exact h.tn j hj
 ·rw [getD_setT _ _ _ _ (by omega)]
  by_cases e : j = i + 2
  ·rw [if_pos e]; exact hz
  ·rw [if_neg e]; exact h.sm j
theorem TOk.left (h : TOk T B) (i : Nat) (hi : i < B.L.length) : TOk (T.set (i + 2) (T.getD (i + 2) IT.no).off) (kleft B i) := by
 obtain ⟨q1, q2, q3, q4⟩ := h.tn i hi;exact h.set i hi ((B.L.getD i KBlk.no).off B.now) (T.getD (i + 2) IT.no).off q1 q2 rfl q4 (h.sm (i + 2)) _ _
theorem TOk.static (h : TOk T B) (c : List IC) (hc : c.length = (T.getD 1 IT.no).cells.length) : TOk (T.set 1 ((T.getD 1 IT.no).withCells c)) B := by
 have hlen := h.len;refine ⟨by simp; omega, ?_, ?_, fun j hj => ?_, fun j => ?_⟩
 ·rw [getD_setT _ _ _ _ (by omega), if_neg (by omega)]; exact h.t0
 ·rw [getD_setT _ _ _ _ (by omega), if_pos rfl];refine ⟨h.t1.1, h.t1.2.1, ?_⟩;show (c.length : Int) = _;rw [hc]; exact h.t1.2.2
 ·rw [getD_setT _ _ _ _ (by omega), if_neg (by omega)]; exact h.tn j hj
 ·rw [getD_setT _ _ _ _ (by omega)]
  by_cases e : j = 1
  ·rw [if_pos e]; show c.length ≤ 1000; rw [hc]; exact h.sm 1
  ·rw [if_neg e]; exact h.sm j
theorem bp_app (x : KBlk) (F : List (Int × Int)) (now : Int) (of : Nat) (h : of < B.L.length + 2) : bp ⟨B.st, B.rest, B.cls, B.L ++ [x], F, now⟩ of = bp B of := by
 unfold bp
 by_cases e0 : of = 0
 ·rw [if_pos e0, if_pos e0]
 ·rw [if_neg e0, if_neg e0]
  by_cases e1 : of = 1
  ·rw [if_pos e1, if_pos e1]
  ·rw [if_neg e1, if_neg e1];show ((B.L ++ [x]).getD (of - 2) KBlk.no).p = _;rw [getD_appL, if_neg (by omega)]
theorem bp_new (x : KBlk) (F : List (Int × Int)) (now : Int) : bp ⟨B.st, B.rest, B.cls, B.L ++ [x], F, now⟩ (B.L.length + 2) = x.p := by
 unfold bp;rw [if_neg (by omega), if_neg (by omega)];show ((B.L ++ [x]).getD (B.L.length + 2 - 2) KBlk.no).p = _;rw [getD_appL, if_pos (by omega)]
theorem bp_set (i : Nat) (hi : i < B.L.length) (x : KBlk) (hx : x.p = (B.L.getD i KBlk.no).p) (F : List (Int × Int)) (now : Int) (of : Nat) : bp ⟨B.st, B.rest, B.cls, B.L.set i x, F, now⟩ of = bp B of := by
 unfold bp
 by_cases e0 : of = 0
 ·rw [if_pos e0, if_pos e0]
 ·rw [if_neg e0, if_neg e0]
  by_cases e1 : of = 1
  ·rw [if_pos e1, if_pos e1]
  ·rw [if_neg e1, if_neg e1];show ((B.L.set i x).getD (of - 2) KBlk.no).p = _;rw [getD_setL _ _ _ _ hi]
   by_cases e : of - 2 = i
   ·rw [if_pos e, hx, e]
   ·rw [if_neg e]
theorem bp_left (i : Nat) (hi : i < B.L.length) (of : Nat) : bp (kleft B i) of = bp B of := bp_set i hi ((B.L.getD i KBlk.no).off B.now) rfl _ _ of
end
def iWithin (T : List IT) (v : IV) : Bool := decide (0 < v.of ∧ 0 ≤ v.n ∧ v.n ≤ (T.getD v.of IT.no).cells.length)
def iTruth (b : Bool) : IV := ⟨0, if b then 1 else 0⟩
def iSum (T : List IT) (op : Int) (a b : IV) : Option IV :=
 if op = 2 ∧ (a.of = 0 ∨ b.of = 0) then some ⟨a.of + b.of, wrap64 (a.n + b.n)⟩
 else if op = 3 ∧ b.of = 0 then some ⟨a.of, wrap64 (a.n - b.n)⟩
 else if op = 3 ∧ a.of = b.of then some ⟨0, wrap64 (a.n - b.n)⟩
 else if op = 5 ∧ a.of = b.of then some (iTruth (decide (a.n = b.n)))
 else if op = 5 ∧ ((iWithin T a = true ∧ b.of = 0 ∧ b.n = 0) ∨ (iWithin T b = true ∧ a.of = 0 ∧ a.n = 0)) then some ⟨0, 0⟩
 else if op = 4 ∧ a.of = 0 ∧ b.of = 0 then some (iTruth (decide (a.n < b.n)))
 else if op = 4 ∧ a.of = b.of ∧ iWithin T a = true ∧ iWithin T b = true then some (iTruth (decide (a.n < b.n)))
 else none
structure VOk (T : List IT) (B : KSt) (v : IV) (x : Int) : Prop where
 of : v.of < T.length
 n0 : -9223372036854775808 ≤ v.n
 n1 : v.n ≤ 9223372036854775807
 x : x = wrap64 (bp B v.of + v.n)
section
variable {T : List IT} {B : KSt} {G : GSt} {R : RSt}
theorem KAll.bp_bd (h : KAll B G R) (hT : TOk T B) (of : Nat) (h1 : 1 ≤ of) (h2 : of < T.length) : 16 ≤ bp B of ∧ bp B of ≤ 1100000000000000000 := by
 obtain ⟨t, hat, b0, b1, _⟩ := h.base hT of h1 h2;have := hat.q 0;have := hat.t0;have := hat.t1;omega
theorem VOk.num {v : Int} (h0 : -9223372036854775808 ≤ v) (h1 : v ≤ 9223372036854775807) (hT : TOk T B) : VOk T B ⟨0, v⟩ v := by
 have := hT.len;refine ⟨by show 0 < _; omega, h0, h1, ?_⟩;show v = wrap64 (0 + v);unfold wrap64; omega
theorem VOk.isNum {v : IV} {x : Int} (h : VOk T B v x) (h0 : v.of = 0) : x = v.n := by
 have e := h.x;have := h.n0;have := h.n1;have hb : bp B v.of = 0 := by rw [h0]; rfl
 rw [hb] at e;unfold wrap64 at e;omega
theorem VOk.inside {v : IV} {x : Int} (h : VOk T B v x) (hK : KAll B G R) (hT : TOk T B) (hw : iWithin T v = true) : x = bp B v.of + v.n ∧ 16 ≤ x ∧ 1 ≤ v.of := by
 have hw := of_decide_eq_true hw;have hb := hK.bp_bd hT v.of (by omega) h.of;have hs := hT.sm v.of;have e := h.x;unfold wrap64 at e;omega
theorem KAll.sum (hK : KAll B G R) (hT : TOk T B) {a b v : IV} {x y op : Int} (ha : VOk T B a x) (hb : VOk T B b y) (hs : iSum T op a b = some v) : VOk T B v (sumV op x y) := by
 have hlen := hT.len;have a0 := ha.n0;have a1 := ha.n1;have b0 := hb.n0;have b1 := hb.n1;unfold iSum at hs
 by_cases c1 : op = 2 ∧ (a.of = 0 ∨ b.of = 0)
 ·rw [if_pos c1] at hs;obtain rfl := Option.some.inj hs;have hw := wrap64_bd (a.n + b.n);have hof : a.of + b.of < T.length := by have := ha.of; have := hb.of; omega
  refine ⟨hof, hw.1, hw.2, ?_⟩;show sumV op x y = wrap64 (bp B (a.of + b.of) + wrap64 (a.n + b.n));unfold sumV;rw [if_pos c1.1, ha.x, hb.x]
  have e : bp B (a.of + b.of) = bp B a.of + bp B b.of := by
   rcases c1.2 with z | z
   ·rw [z, Nat.zero_add]; show _ = 0 + _; omega
   ·rw [z, Nat.add_zero]; show _ = _ + 0; omega
  rw [e];unfold wrap64;omega
 rw [if_neg c1] at hs
 by_cases c2 : op = 3 ∧ b.of = 0
 ·rw [if_pos c2] at hs;obtain rfl := Option.some.inj hs;have hw := wrap64_bd (a.n - b.n);refine ⟨ha.of, hw.1, hw.2, ?_⟩;show sumV op x y = wrap64 (bp B a.of + wrap64 (a.n - b.n));unfold sumV;rw [if_neg (by omega), if_pos c2.1, hb.isNum c2.2, ha.x];unfold wrap64;omega
 rw [if_neg c2] at hs
 by_cases c3 : op = 3 ∧ a.of = b.of
 ·rw [if_pos c3] at hs;obtain rfl := Option.some.inj hs;have hw := wrap64_bd (a.n - b.n)
  have e : sumV op x y = wrap64 (a.n - b.n) := by
   unfold sumV;rw [if_neg (by omega), if_pos c3.1, ha.x, hb.x, c3.2];unfold wrap64;omega
  rw [e];exact VOk.num hw.1 hw.2 hT
 rw [if_neg c3] at hs
 have truth : ∀ p : Bool, VOk T B (iTruth p) (if p then 1 else 0) := fun p => by
  unfold iTruth
  cases p
  ·exact VOk.num (by decide) (by decide) hT
  ·exact VOk.num (by decide) (by decide) hT
 by_cases c4 : op = 5 ∧ a.of = b.of
 ·rw [if_pos c4] at hs;obtain rfl := Option.some.inj hs
  have e : sumV op x y = if decide (a.n = b.n) = true then 1 else 0 := by
   unfold sumV;rw [if_neg (by omega), if_neg (by omega), if_neg (by omega), ha.x, hb.x, c4.2]
   by_cases z : a.n = b.n
   ·rw [if_pos (by rw [z]), if_pos (decide_eq_true z)]
   ·rw [if_neg (by unfold wrap64; omega), if_neg (by rw [decide_eq_true_eq]; exact z)]
  rw [e];exact truth _
 rw [if_neg c4] at hs
 by_cases c5 : op = 5 ∧ ((iWithin T a = true ∧ b.of = 0 ∧ b.n = 0) ∨ (iWithin T b = true ∧ a.of = 0 ∧ a.n = 0))
 ·rw [if_pos c5] at hs;obtain rfl := Option.some.inj hs
  have e : sumV op x y = 0 := by
   unfold sumV;rw [if_neg (by omega), if_neg (by omega), if_neg (by omega)]
   rcases c5.2 with ⟨h1, h2, h3⟩ | ⟨h1, h2, h3⟩
   ·have := ha.inside hK hT h1;have := hb.isNum h2;rw [if_neg (by omega)]
   ·have := hb.inside hK hT h1;have := ha.isNum h2;rw [if_neg (by omega)]
  rw [e];exact VOk.num (by decide) (by decide) hT
 rw [if_neg c5] at hs
 by_cases c6 : op = 4 ∧ a.of = 0 ∧ b.of = 0
 ·rw [if_pos c6] at hs;obtain rfl := Option.some.inj hs
  have e : sumV op x y = if decide (a.n < b.n) = true then 1 else 0 := by
   unfold sumV;rw [if_neg (by omega), if_neg (by omega), if_pos c6.1, ha.isNum c6.2.1, hb.isNum c6.2.2]
   by_cases z : a.n < b.n
   ·rw [if_pos z, if_pos (decide_eq_true z)]
   ·rw [if_neg z, if_neg (by rw [decide_eq_true_eq]; exact z)]
  rw [e];exact truth _
 rw [if_neg c6] at hs
 by_cases c7 : op = 4 ∧ a.of = b.of ∧ iWithin T a = true ∧ iWithin T b = true
 ·rw [if_pos c7] at hs;obtain rfl := Option.some.inj hs
  have e : sumV op x y = if decide (a.n < b.n) = true then 1 else 0 := by
   unfold sumV;have h1 := ha.inside hK hT c7.2.2.1;have h2 := hb.inside hK hT c7.2.2.2;rw [if_neg (by omega), if_neg (by omega), if_pos c7.1, h1.1, h2.1, c7.2.1]
   by_cases z : a.n < b.n
   ·rw [if_pos (by omega), if_pos (decide_eq_true z)]
   ·rw [if_neg (by omega), if_neg (by rw [decide_eq_true_eq]; exact z)]
  rw [e];exact truth _
 rw [if_neg c7] at hs;exact absurd hs (by simp)
end
theorem gran_ge {st rest : Int} {cls : List (Int × Int)} (h : Cf.Valid st rest cls) (k : Nat) (hk : k ≤ cls.length) : 2 + st ≤ Cf.gran st cls k := by
 induction k with
 | zero => show 2 + st ≤ 1 + st + 1; omega
 | succ k ih =>
   have h1 := ih (by omega);have h2 := h.s0 k (by omega);have h3 := h.g0 k (by omega);have : 0 ≤ Cf.sl cls k * Cf.gr cls k := Int.mul_nonneg (by omega) (by omega);show 2 + st ≤ Cf.gran st cls k + Cf.sl cls k * Cf.gr cls k + 1;omega
section
variable {B : KSt} {G : GSt} {R : RSt}
theorem KOk.away (h : KOk B G R) {G' : GSt} {R' : RSt} (hs : SimB G' R') (h1 : R'.st = R.st) (h2 : R'.rest = R.rest) (h3 : R'.cls = R.cls) (h4 : R'.log = R.log)
 (hout : ∀ a : Int, 16 * (1 + R.st) ≤ a → R'.byte a = R.byte a) : KOk B G' R' := by
 refine ⟨hs, h.st.trans h1.symm, h.rest.trans h2.symm, h.cls.trans h3.symm, ?_, fun j hj hx => ?_, h.uniq, fun k' hk' => ?_, fun j hj => ?_, by rw [h4]; exact h.nb⟩
 ·refine ⟨fun k hk v hv2 => ?_, fun k s n hn hst hx => ?_⟩
  ·have e : ∀ s, R'.r k s = R.r k s := fun s => by unfold RSt.r; rw [h2, h4]
   rw [h3] at hk;rw [h2, h3, cntTo_congr _ (fun s => decide (R.r k s = v)) _ (fun s _ => by rw [e])];exact h.rests.cnt k hk v hv2
  ·have e : R'.r k s = R.r k s := by unfold RSt.r; rw [h2, h4]
   rw [h4] at hst;rw [h2] at hx;rw [e]; exact h.rests.look k s n hn hst hx
 ·obtain ⟨k', s', hlj⟩ := h.live j hj hx;have hst := h.simb.sim.rok.conf;have hg : 2 + R.st ≤ Cf.gran R.st R.cls k' := gran_ge hst k' (by have := hlj.hk; omega);have hp : 0 ≤ (s' : Int) * Cf.gr R.cls k' := Int.mul_nonneg (by omega) (by have := hst.g0 k' hlj.hk; omega);have hb : 16 * (1 + R.st) ≤ Cf.begin_ R.st R.cls k' s' := by unfold Cf.begin_; omega
  exact ⟨k', s', hlj.marks h1 h3 h4 (B.L.getD j KBlk.no).want rfl (fun t ht => by
   rw [hlj.byte t ht];exact (hout _ (by omega)).symm)⟩
 ·rw [h3, h4];rw [h3] at hk';exact h.cnt k' hk'
 ·obtain ⟨k', s', t, hh⟩ := h.had j hj;exact ⟨k', s', t, hh.ek, hh.es, by rw [h3]; exact hh.hk, by rw [h3]; exact hh.hs, by rw [h4]; exact hh.gv, hh.t0, hh.t1, by rw [h1, h3]; exact hh.p, by rw [h4]; exact hh.cur, by rw [h4]; exact hh.dead, by rw [h4]; exact hh.old, hh.lv⟩
theorem KAll.away (h : KAll B G R) {G' : GSt} {R' : RSt} (hs : SimB G' R') (h1 : R'.st = R.st) (h2 : R'.rest = R.rest) (h3 : R'.cls = R.cls) (h4 : R'.log = R.log)
 (hout : ∀ a : Int, 16 * (1 + R.st) ≤ a → R'.byte a = R.byte a) : KAll B G' R' :=
 ⟨h.ok.away hs h1 h2 h3 h4 hout, h.rs.log h2 h4, h.lv.log h4⟩
end
theorem ld_of_st (byte : Int → Int) (a x : Int) (hb : ∀ i : Nat, i < 8 → byte (a + i) = Ref.stV x i % 256) : Ref.ldV byte a 8 = wrap64 x := by
 have s0 : Ref.stV x 0 = x % 18446744073709551616 := rfl;have u0 : Ref.ldU 0 = 1 := by decide
 have u1 : Ref.ldU 1 = 256 := by
  have e : Ref.ldU 1 = wrap64 (Ref.ldU 0 * 256) := rfl;rw [e, u0]; unfold wrap64; omega
 have u2 : Ref.ldU 2 = 65536 := by
  have e : Ref.ldU 2 = wrap64 (Ref.ldU 1 * 256) := rfl;rw [e, u1]; unfold wrap64; omega
 have u3 : Ref.ldU 3 = 16777216 := by
  have e : Ref.ldU 3 = wrap64 (Ref.ldU 2 * 256) := rfl;rw [e, u2]; unfold wrap64; omega
 have u4 : Ref.ldU 4 = 4294967296 := by
  have e : Ref.ldU 4 = wrap64 (Ref.ldU 3 * 256) := rfl;rw [e, u3]; unfold wrap64; omega
 have u5 : Ref.ldU 5 = 1099511627776 := by
  have e : Ref.ldU 5 = wrap64 (Ref.ldU 4 * 256) := rfl;rw [e, u4]; unfold wrap64; omega
 have u6 : Ref.ldU 6 = 281474976710656 := by
  have e : Ref.ldU 6 = wrap64 (Ref.ldU 5 * 256) := rfl;rw [e, u5]; unfold wrap64; omega
 have u7 : Ref.ldU 7 = 72057594037927936 := by
  have e : Ref.ldU 7 = wrap64 (Ref.ldU 6 * 256) := rfl;rw [e, u6]; unfold wrap64; omega
 have s1 : Ref.stV x 1 = Ref.stV x 0 / 256 := rfl;have s2 : Ref.stV x 2 = Ref.stV x 1 / 256 := rfl;have s3 : Ref.stV x 3 = Ref.stV x 2 / 256 := rfl;have s4 : Ref.stV x 4 = Ref.stV x 3 / 256 := rfl;have s5 : Ref.stV x 5 = Ref.stV x 4 / 256 := rfl;have s6 : Ref.stV x 6 = Ref.stV x 5 / 256 := rfl;have s7 : Ref.stV x 7 = Ref.stV x 6 / 256 := rfl;have s8 : Ref.stV x 8 = Ref.stV x 7 / 256 := rfl
 have l0 : Ref.ldV byte a 0 = wrap64 (x % 18446744073709551616 - 1 * Ref.stV x 0) := by
  rw [s0]; show 0 = wrap64 _; unfold wrap64; omega
 have l1 : Ref.ldV byte a 1 = wrap64 (x % 18446744073709551616 - 256 * Ref.stV x 1) := by
  have e : Ref.ldV byte a 1 = wrap64 (Ref.ldV byte a 0 + wrap64 (byte (a + (0 : Nat)) * Ref.ldU 0)) := rfl;rw [e, l0, hb 0 (by decide), u0, s1];generalize Ref.stV x 0 = y;unfold wrap64;omega
 have l2 : Ref.ldV byte a 2 = wrap64 (x % 18446744073709551616 - 65536 * Ref.stV x 2) := by
  have e : Ref.ldV byte a 2 = wrap64 (Ref.ldV byte a 1 + wrap64 (byte (a + (1 : Nat)) * Ref.ldU 1)) := rfl;rw [e, l1, hb 1 (by decide), u1, s2];generalize Ref.stV x 1 = y;unfold wrap64;omega
 have l3 : Ref.ldV byte a 3 = wrap64 (x % 18446744073709551616 - 16777216 * Ref.stV x 3) := by
  have e : Ref.ldV byte a 3 = wrap64 (Ref.ldV byte a 2 + wrap64 (byte (a + (2 : Nat)) * Ref.ldU 2)) := rfl;rw [e, l2, hb 2 (by decide), u2, s3];generalize Ref.stV x 2 = y;unfold wrap64;omega
 have l4 : Ref.ldV byte a 4 = wrap64 (x % 18446744073709551616 - 4294967296 * Ref.stV x 4) := by
  have e : Ref.ldV byte a 4 = wrap64 (Ref.ldV byte a 3 + wrap64 (byte (a + (3 : Nat)) * Ref.ldU 3)) := rfl;rw [e, l3, hb 3 (by decide), u3, s4];generalize Ref.stV x 3 = y;unfold wrap64;omega
 have l5 : Ref.ldV byte a 5 = wrap64 (x % 18446744073709551616 - 1099511627776 * Ref.stV x 5) := by
  have e : Ref.ldV byte a 5 = wrap64 (Ref.ldV byte a 4 + wrap64 (byte (a + (4 : Nat)) * Ref.ldU 4)) := rfl;rw [e, l4, hb 4 (by decide), u4, s5];generalize Ref.stV x 4 = y;unfold wrap64;omega
 have l6 : Ref.ldV byte a 6 = wrap64 (x % 18446744073709551616 - 281474976710656 * Ref.stV x 6) := by
  have e : Ref.ldV byte a 6 = wrap64 (Ref.ldV byte a 5 + wrap64 (byte (a + (5 : Nat)) * Ref.ldU 5)) := rfl;rw [e, l5, hb 5 (by decide), u5, s6];generalize Ref.stV x 5 = y;unfold wrap64;omega
 have l7 : Ref.ldV byte a 7 = wrap64 (x % 18446744073709551616 - 72057594037927936 * Ref.stV x 7) := by
  have e : Ref.ldV byte a 7 = wrap64 (Ref.ldV byte a 6 + wrap64 (byte (a + (6 : Nat)) * Ref.ldU 6)) := rfl;rw [e, l6, hb 6 (by decide), u6, s7];generalize Ref.stV x 6 = y;unfold wrap64;omega
 have l8 : Ref.ldV byte a 8 = wrap64 (x % 18446744073709551616 - 18446744073709551616 * Ref.stV x 8) := by
  have e : Ref.ldV byte a 8 = wrap64 (Ref.ldV byte a 7 + wrap64 (byte (a + (7 : Nat)) * Ref.ldU 7)) := rfl;rw [e, l7, hb 7 (by decide), u7, s8];generalize Ref.stV x 7 = y;unfold wrap64;omega
 have h8 : Ref.stV x 8 = 0 := by
  have b0 := Ref.stV_bd x 0;generalize Ref.stV x 0 = y0 at *;generalize Ref.stV x 8 = y8 at *;generalize Ref.stV x 1 = y1 at *;generalize Ref.stV x 2 = y2 at *;generalize Ref.stV x 3 = y3 at *;generalize Ref.stV x 4 = y4 at *;generalize Ref.stV x 5 = y5 at *;generalize Ref.stV x 6 = y6 at *;generalize Ref.stV x 7 = y7 at *;clear l0 l1 l2 l3 l4 l5 l6 l7 l8 u0 u1 u2 u3 u4 u5 u6 u7;omega
 rw [l8, h8];unfold wrap64;omega
structure COk (T : List IT) (B : KSt) (c : IC) (b : Int) : Prop where
 b0 : 0 ≤ b
 b1 : b ≤ 255
 num : c.v.of = 0 → c.v.n = b
 ptr : c.v.of ≠ 0 → c.part < 8 ∧ VOk T B c.v (wrap64 (bp B c.v.of + c.v.n)) ∧ b = Ref.stV (wrap64 (bp B c.v.of + c.v.n)) c.part % 256
def iNum (l : List IC) : Nat → Nat → Int
 | 0, _ => 0
 | f + 1, i => wrap64 (256 * iNum l f (i + 1) + (l.getD i IC.no).v.n)
def iOne (l : List IC) (v : IV) : Nat → Bool
 | 0 => true
 | m + 1 => iOne l v m && decide ((l.getD m IC.no).v.of = v.of ∧ (l.getD m IC.no).v.n = v.n ∧ (l.getD m IC.no).part = m)
def iNums (l : List IC) : Nat → Bool
 | 0 => true
 | m + 1 => iNums l m && decide ((l.getD m IC.no).v.of = 0)
def iKept (l : List IC) : Option IV :=
 if 0 < (l.getD 0 IC.no).v.of then (if iOne l (l.getD 0 IC.no).v 8 then some (l.getD 0 IC.no).v else none)
 else if iNums l 8 then some ⟨0, iNum l 8 0⟩ else none
theorem iOne_at {l : List IC} {v : IV} {m : Nat} (h : iOne l v m = true) : ∀ i, i < m → (l.getD i IC.no).v.of = v.of ∧ (l.getD i IC.no).v.n = v.n ∧ (l.getD i IC.no).part = i := by
 induction m with
 | zero => intro i hi; omega
 | succ m ih =>
   simp only [iOne, Bool.and_eq_true, decide_eq_true_eq] at h;intro i hi
   by_cases e : i = m
   ·subst e; exact h.2
   ·exact ih h.1 i (by omega)
theorem iNums_at {l : List IC} {m : Nat} (h : iNums l m = true) : ∀ i, i < m → (l.getD i IC.no).v.of = 0 := by
 induction m with
 | zero => intro i hi; omega
 | succ m ih =>
   simp only [iNums, Bool.and_eq_true, decide_eq_true_eq] at h;intro i hi
   by_cases e : i = m
   ·subst e; exact h.2
   ·exact ih h.1 i (by omega)
def iN (n : Nat → Int) : Nat → Nat → Int
 | 0, _ => 0
 | f + 1, i => wrap64 (256 * iN n f (i + 1) + n i)
theorem iNum_iN (l : List IC) (f i : Nat) : iNum l f i = iN (fun j => (l.getD j IC.no).v.n) f i := by
 induction f generalizing i with
 | zero => rfl
 | succ f ih => simp only [iNum, iN, ih]
theorem ld_nums (byte : Int → Int) (a : Int) (n : Nat → Int) (hn : ∀ i : Nat, i < 8 → 0 ≤ n i ∧ n i ≤ 255) (h : ∀ i : Nat, i < 8 → byte (a + i) = n i) : Ref.ldV byte a 8 = iN n 8 0 := by
 have b0 := hn 0 (by decide);have b1 := hn 1 (by decide);have b2 := hn 2 (by decide);have b3 := hn 3 (by decide);have b4 := hn 4 (by decide);have b5 := hn 5 (by decide);have b6 := hn 6 (by decide);have b7 := hn 7 (by decide);obtain ⟨z7, hz7⟩ : ∃ z : Int, z = n 7 + 256 * 0 := ⟨_, rfl⟩
 obtain ⟨z6, hz6⟩ : ∃ z : Int, z = n 6 + 256 * z7 := ⟨_, rfl⟩
 obtain ⟨z5, hz5⟩ : ∃ z : Int, z = n 5 + 256 * z6 := ⟨_, rfl⟩
 obtain ⟨z4, hz4⟩ : ∃ z : Int, z = n 4 + 256 * z5 := ⟨_, rfl⟩
 obtain ⟨z3, hz3⟩ : ∃ z : Int, z = n 3 + 256 * z4 := ⟨_, rfl⟩
 obtain ⟨z2, hz2⟩ : ∃ z : Int, z = n 2 + 256 * z3 := ⟨_, rfl⟩
 obtain ⟨z1, hz1⟩ : ∃ z : Int, z = n 1 + 256 * z2 := ⟨_, rfl⟩
 obtain ⟨z0, hz0⟩ : ∃ z : Int, z = n 0 + 256 * z1 := ⟨_, rfl⟩
 have y0 : Ref.stV z0 0 = z0 := by show z0 % 18446744073709551616 = z0; omega
 have y1 : Ref.stV z0 1 = z1 := by
  have e : Ref.stV z0 1 = Ref.stV z0 0 / 256 := rfl;rw [e, y0]; omega
 have y2 : Ref.stV z0 2 = z2 := by
  have e : Ref.stV z0 2 = Ref.stV z0 1 / 256 := rfl;rw [e, y1]; omega
 have y3 : Ref.stV z0 3 = z3 := by
  have e : Ref.stV z0 3 = Ref.stV z0 2 / 256 := rfl;rw [e, y2]; omega
 have y4 : Ref.stV z0 4 = z4 := by
  have e : Ref.stV z0 4 = Ref.stV z0 3 / 256 := rfl;rw [e, y3]; omega
 have y5 : Ref.stV z0 5 = z5 := by
  have e : Ref.stV z0 5 = Ref.stV z0 4 / 256 := rfl;rw [e, y4]; omega
 have y6 : Ref.stV z0 6 = z6 := by
  have e : Ref.stV z0 6 = Ref.stV z0 5 / 256 := rfl;rw [e, y5]; omega
 have y7 : Ref.stV z0 7 = z7 := by
  have e : Ref.stV z0 7 = Ref.stV z0 6 / 256 := rfl;rw [e, y6]; omega
 have m0 : iN n 0 8 = 0 := rfl
 have m1 : iN n 1 7 = wrap64 z7 := by
  have e : iN n 1 7 = wrap64 (256 * iN n 0 8 + n 7) := rfl;rw [e, m0, hz7]; unfold wrap64; omega
 have m2 : iN n 2 6 = wrap64 z6 := by
  have e : iN n 2 6 = wrap64 (256 * iN n 1 7 + n 6) := rfl;rw [e, m1]; unfold wrap64; omega
 have m3 : iN n 3 5 = wrap64 z5 := by
  have e : iN n 3 5 = wrap64 (256 * iN n 2 6 + n 5) := rfl;rw [e, m2]; unfold wrap64; omega
 have m4 : iN n 4 4 = wrap64 z4 := by
  have e : iN n 4 4 = wrap64 (256 * iN n 3 5 + n 4) := rfl;rw [e, m3]; unfold wrap64; omega
 have m5 : iN n 5 3 = wrap64 z3 := by
  have e : iN n 5 3 = wrap64 (256 * iN n 4 4 + n 3) := rfl;rw [e, m4]; unfold wrap64; omega
 have m6 : iN n 6 2 = wrap64 z2 := by
  have e : iN n 6 2 = wrap64 (256 * iN n 5 3 + n 2) := rfl;rw [e, m5]; unfold wrap64; omega
 have m7 : iN n 7 1 = wrap64 z1 := by
  have e : iN n 7 1 = wrap64 (256 * iN n 6 2 + n 1) := rfl;rw [e, m6]; unfold wrap64; omega
 have m8 : iN n 8 0 = wrap64 z0 := by
  have e : iN n 8 0 = wrap64 (256 * iN n 7 1 + n 0) := rfl;rw [e, m7]; unfold wrap64; omega
 rw [m8];refine ld_of_st byte a z0 fun i hi => ?_
 rw [h i hi]
 match i, hi with
 | 0, _ => rw [y0]; omega
 | 1, _ => rw [y1]; omega
 | 2, _ => rw [y2]; omega
 | 3, _ => rw [y3]; omega
 | 4, _ => rw [y4]; omega
 | 5, _ => rw [y5]; omega
 | 6, _ => rw [y6]; omega
 | 7, _ => rw [y7]; omega
section
variable {T : List IT} {B : KSt}
theorem kept_ok (l : List IC) (byte : Int → Int) (a : Int) (hc : ∀ i : Nat, i < 8 → COk T B (l.getD i IC.no) (byte (a + i))) (hT : TOk T B) (w : IV) (hw : iKept l = some w) : VOk T B w (Ref.ldV byte a 8) := by
 unfold iKept at hw
 by_cases c : 0 < (l.getD 0 IC.no).v.of
 ·rw [if_pos c] at hw
  cases h1 : iOne l (l.getD 0 IC.no).v 8
  ·rw [h1, if_neg (by decide)] at hw; exact absurd hw (by simp)
  ·rw [h1, if_pos rfl] at hw;obtain rfl := Option.some.inj hw;obtain ⟨_, hv, _⟩ := (hc 0 (by decide)).ptr (by omega)
   rw [ld_of_st byte a (wrap64 (bp B (l.getD 0 IC.no).v.of + (l.getD 0 IC.no).v.n)) (fun i hi => by
    obtain ⟨e1, e2, e3⟩ := iOne_at h1 i hi;have := ((hc i hi).ptr (by omega)).2.2;rw [e1, e2, e3] at this;exact this)]
   rw [show wrap64 (wrap64 (bp B (l.getD 0 IC.no).v.of + (l.getD 0 IC.no).v.n)) = wrap64 (bp B (l.getD 0 IC.no).v.of + (l.getD 0 IC.no).v.n) by unfold wrap64; omega];exact hv
 ·rw [if_neg c] at hw
  cases h1 : iNums l 8
  ·rw [h1, if_neg (by decide)] at hw; exact absurd hw (by simp)
  ·rw [h1, if_pos rfl] at hw;obtain rfl := Option.some.inj hw
   have e := ld_nums byte a (fun j => (l.getD j IC.no).v.n) (fun i hi => by
    have k := hc i hi;have e := k.num (iNums_at h1 i hi);have := k.b0;have := k.b1;show 0 ≤ (l.getD i IC.no).v.n ∧ _;omega) (fun i hi => ((hc i hi).num (iNums_at h1 i hi)).symm)
   rw [e, ← iNum_iN];have hb : -9223372036854775808 ≤ iNum l 8 0 ∧ iNum l 8 0 ≤ 9223372036854775807 := wrap64_bd _;exact VOk.num hb.1 hb.2 hT
end
end Go.Proofs.YtjikemhmnkckcabGreat
