import Derived.Test.YtjikemhmnkckcabGreatJ26
namespace Go.Proofs.YtjikemhmnkckcabGreat
open Go.RowKit
structure IV where
 of : Nat
 n : Int
structure IC where
 v : IV
 part : Nat
def IC.no : IC := ⟨⟨0, 0⟩, 0⟩
structure IT where
 cls : Int
 slot : Int
 live : Bool
 cb : Nat
 cells : List IC
def IT.no : IT := ⟨-1, -1, false, 0, []⟩
def iLastTo (T : List IT) (k s : Int) : Nat → Nat
 | 0 => 0
 | m + 1 => if m ≤ 1 then 0 else if (T.getD m IT.no).cls = k ∧ (T.getD m IT.no).slot = s then m else iLastTo T k s m
def iLast (T : List IT) (k s : Int) : Nat := iLastTo T k s T.length
structure TOk (T : List IT) (B : KSt) : Prop where
 len : T.length = B.L.length + 2
 t0 : (T.getD 0 IT.no).cls = -1 ∧ (T.getD 0 IT.no).live = false ∧ (T.getD 0 IT.no).cells.length = 0
 t1 : (T.getD 1 IT.no).cls = -1 ∧ (T.getD 1 IT.no).live = true ∧ ((T.getD 1 IT.no).cells.length : Int) = 16 * B.st
 tn : ∀ i, i < B.L.length → (T.getD (i + 2) IT.no).cls = (B.L.getD i KBlk.no).k ∧ (T.getD (i + 2) IT.no).slot = (B.L.getD i KBlk.no).s ∧ (T.getD (i + 2) IT.no).live = (B.L.getD i KBlk.no).live ∧ (T.getD (i + 2) IT.no).cells.length = (B.L.getD i KBlk.no).want.length
 sm : ∀ i, (T.getD i IT.no).cells.length ≤ 1000
def bp (B : KSt) (of : Nat) : Int := if of = 0 then 0 else if of = 1 then 16 else (B.L.getD (of - 2) KBlk.no).p
theorem iLastTo_cases {T : List IT} {B : KSt} (h : TOk T B) (k s : Int) (m : Nat) (hm : m ≤ B.L.length) :
 (iLastTo T k s (m + 2) = 0 ∧ ∀ i, i < m → ¬ ((B.L.getD i KBlk.no).k = k ∧ (B.L.getD i KBlk.no).s = s)) ∨
 (∃ i, i < m ∧ iLastTo T k s (m + 2) = i + 2 ∧ (B.L.getD i KBlk.no).k = k ∧ (B.L.getD i KBlk.no).s = s ∧ ∀ j, i < j → j < m → ¬ ((B.L.getD j KBlk.no).k = k ∧ (B.L.getD j KBlk.no).s = s)) := by
 induction m with
 | zero => left; exact ⟨by show (if 1 ≤ 1 then 0 else _) = 0; rw [if_pos (Nat.le_refl _)], fun i hi => by omega⟩
 | succ m ih =>
   obtain ⟨b1, b2, _, _⟩ := h.tn m (by omega)
   have e : iLastTo T k s (m + 1 + 2) = if (B.L.getD m KBlk.no).k = k ∧ (B.L.getD m KBlk.no).s = s then m + 2 else iLastTo T k s (m + 2) := by
    show (if m + 2 ≤ 1 then 0 else if (T.getD (m + 2) IT.no).cls = k ∧ (T.getD (m + 2) IT.no).slot = s then m + 2 else iLastTo T k s (m + 2)) = _;rw [if_neg (by omega), b1, b2]
   rw [e]
   by_cases c : (B.L.getD m KBlk.no).k = k ∧ (B.L.getD m KBlk.no).s = s
   ·right
    exact ⟨m, by omega, by rw [if_pos c], c.1, c.2, fun j h1 h2 => by omega⟩
   ·rw [if_neg c]
    rcases ih (by omega) with ⟨h0, hn⟩ | ⟨i, hi, hl, hk, hs, hn⟩
    ·left
     refine ⟨h0, fun i hi => ?_⟩
     by_cases e : i = m
     ·subst e; exact c
     ·exact hn i (by omega)
    ·right
     refine ⟨i, by omega, hl, hk, hs, fun j h1 h2 => ?_⟩
     by_cases e : j = m
     ·subst e; exact c
     ·exact hn j h1 (by omega)
theorem TOk.last {T : List IT} {B : KSt} (h : TOk T B) (k s : Int) :
 (iLast T k s = 0 ∧ ∀ i, i < B.L.length → ¬ ((B.L.getD i KBlk.no).k = k ∧ (B.L.getD i KBlk.no).s = s)) ∨
 (∃ i, i < B.L.length ∧ iLast T k s = i + 2 ∧ (B.L.getD i KBlk.no).k = k ∧ (B.L.getD i KBlk.no).s = s ∧ ∀ j, i < j → j < B.L.length → ¬ ((B.L.getD j KBlk.no).k = k ∧ (B.L.getD j KBlk.no).s = s)) := by
 unfold iLast;rw [h.len];exact iLastTo_cases h k s _ (Nat.le_refl _)
section
variable {T : List IT} {B : KSt} {G : GSt} {R : RSt}
theorem KAll.last_live (h : KAll B G R) (hT : TOk T B) (k s : Nat) : (Ref.state R.log k s = 3 ↔ iLast T k s ≠ 0 ∧ (T.getD (iLast T k s) IT.no).live = true) := by
 rw [h.state3 k s]
 rcases hT.last k s with ⟨h0, hn⟩ | ⟨i, hi, hl, hk, hs, hn⟩
 ·rw [h0]
  constructor
  ·rintro ⟨i, hi, _, h1, h2⟩; exact absurd ⟨h1, h2⟩ (hn i hi)
  ·rintro ⟨x, _⟩; exact absurd rfl x
 ·rw [hl, (hT.tn i hi).2.2.1]
  constructor
  ·rintro ⟨j, hj, h1, h2, h3⟩;refine ⟨by omega, ?_⟩
   by_cases e : j = i
   ·rw [← e]; exact h1
   ·exfalso
    have hle : j < i := by
     by_cases c : i < j
     ·exact absurd ⟨h2, h3⟩ (hn j c hj)
     ·omega
    obtain ⟨k', s', t, hh⟩ := h.ok.had j hj;have h0 := (hh.lv h1).1;have hp := klaterTo_pos B.L j i B.L.length hle hi (by rw [hk, h2]) (by rw [hs, h3]);unfold klater at h0;omega
  ·rintro ⟨_, x⟩;exact ⟨i, hi, x, hk, hs⟩
end
section
variable {T : List IT} {B : KSt} {G : GSt} {R : RSt}
structure At (B : KSt) (R : RSt) (of : Nat) (a t : Int) : Prop where
 q : ∀ n : Int, bp B of + n = t * 72057594037927936 + (a + n)
 t0 : 0 ≤ t
 t1 : t ≤ 14
 st : of = 1 → t = 0
 bl : of ≠ 1 → 1 ≤ t
theorem KAll.at_ (h : KAll B G R) (hT : TOk T B) (of : Nat) (h1 : 1 ≤ of) (h2 : of < T.length) :
 (of = 1 ∧ At B R of 16 0) ∨ (∃ (k s : Nat) (t : Int), KHad R (B.L.getD (of - 2) KBlk.no) (klater B.L (of - 2)) k s t ∧ 2 ≤ of ∧ of - 2 < B.L.length ∧ At B R of (Cf.begin_ R.st R.cls k s) t) := by
 by_cases e : of = 1
 ·left
  subst e;refine ⟨rfl, fun n => ?_, by omega, by omega, fun _ => rfl, fun x => absurd rfl x⟩;show (if (1 : Nat) = 0 then (0 : Int) else if (1 : Nat) = 1 then 16 else _) + n = _;rw [if_neg (by omega), if_pos rfl]; omega
 ·right
  have hl := hT.len;obtain ⟨k, s, t, hh⟩ := h.ok.had (of - 2) (by omega);refine ⟨k, s, t, hh, by omega, by omega, fun n => ?_, by have := hh.t0; omega, hh.t1, fun x => absurd x e, fun _ => hh.t0⟩;unfold bp;rw [if_neg (by omega), if_neg e, hh.p]; omega
end
def iBase (st : Int) (cls : List (Int × Int)) (T : List IT) (of : Nat) : Int := if (T.getD of IT.no).cls < 0 then 16 else Cf.begin_ st cls (T.getD of IT.no).cls.toNat (T.getD of IT.no).slot
def iWild (a : Int) : Bool := decide (a < 0 ∨ 65535 < a)
theorem access_all (R : RSt) (q n : Int) (hn : 1 ≤ n) (h6 : n ≤ 65536) (ht : Ref.tameB q = true) (h : ∀ j : Nat, (j : Int) < n → R.tag (q % 72057594037927936 + j) = q / 72057594037927936 ∧ R.tag (q % 72057594037927936 + j) ≠ -1 ∧ R.tag (q % 72057594037927936 + j) ≠ 15) : (R.access q n).1 = 0 := by
 unfold RSt.access;rw [if_neg (by omega), if_neg (by omega), if_pos ht]
 rw [Ref.accFrom_skip R.tag _ _ n.toNat n.toNat 0 (Nat.le_refl _) (fun j _ hj => by
  obtain ⟨e1, e2, e3⟩ := h j (by omega);unfold touchE;rw [if_neg e2, if_neg (fun x => x.elim e3 (fun y => y e1))])]
 rw [Nat.sub_self];rfl
section
variable {T : List IT} {B : KSt} {G : GSt} {R : RSt}
theorem KAll.fine (h : KAll B G R) (hT : TOk T B) (of : Nat) (h1 : 1 ≤ of) (h2 : of < T.length) (hl : (T.getD of IT.no).live = true) (v n : Int) (hn : 1 ≤ n) (v0 : 0 ≤ v) (v1 : v ≤ (T.getD of IT.no).cells.length - n) : (R.access (bp B of + v) n).1 = 0 := by
 have hv := h.ok.simb.sim.rok.conf;have hlen := hT.len
 rcases h.at_ hT of h1 h2 with ⟨rfl, hat⟩ | ⟨k, s, t, hh, g1, g2, hat⟩
 ·have hc := hT.t1.2.2;have hst := h.ok.st;have := hv.st0;have := hv.st1;rw [hat.q v];refine access_all R _ n hn (by omega) ?_ fun j hj => ?_
  ·unfold Ref.tameB;simp only [Bool.and_eq_true, decide_eq_true_eq];unfold Ref.U;omega
  ·rw [show (0 * 72057594037927936 + (16 + v)) % 72057594037927936 + (j : Int) = 16 + v + j by omega, show (0 * 72057594037927936 + (16 + v)) / 72057594037927936 = 0 by omega];have et : R.tag (16 + v + j) = Cf.tag R.st R.cls R.log (16 + v + j) := rfl;unfold Cf.tag at et;rw [if_pos (by omega)] at et;rw [et]; decide
 ·obtain ⟨q1, q2, q3, q4⟩ := hT.tn (of - 2) g2;rw [show of - 2 + 2 = of by omega] at q1 q2 q3 q4;rw [q3] at hl;rw [q4] at v1;obtain ⟨k', s', hli⟩ := h.ok.live (of - 2) g2 hl;have : k' = k ∧ s' = s := by have := hli.ek; have := hli.es; have := hh.ek; have := hh.es; omega
  obtain ⟨rfl, rfl⟩ := this;have hbd := hli.bd h.ok.simb;have hbp : bp B of = (B.L.getD (of - 2) KBlk.no).p := by unfold bp; rw [if_neg (by omega), if_neg (by omega)]
  rw [hbp, hli.p]
  have key : ∀ j : Nat, (j : Int) < n → R.tag (Cf.begin_ R.st R.cls k' s' + (v + j)) = Ref.last R.log k' s' := fun j hj => by
   obtain ⟨m, hm⟩ : ∃ m : Nat, (m : Int) = v + j := ⟨(v + j).toNat, by omega⟩
   rw [← hm];exact hli.tag h.ok.simb m (by omega)
  generalize Ref.last R.log k' s' = tg at *;refine access_all R _ n hn (by omega) ?_ fun j hj => ?_
  ·unfold Ref.tameB;simp only [Bool.and_eq_true, decide_eq_true_eq];unfold Ref.U;omega
  ·rw [show (tg * 72057594037927936 + Cf.begin_ R.st R.cls k' s' + v) % 72057594037927936 + (j : Int) = Cf.begin_ R.st R.cls k' s' + (v + j) by omega, show (tg * 72057594037927936 + Cf.begin_ R.st R.cls k' s' + v) / 72057594037927936 = tg by omega, key j hj];omega
theorem KAll.base (h : KAll B G R) (hT : TOk T B) (of : Nat) (h1 : 1 ≤ of) (h2 : of < T.length) :
 ∃ t, At B R of (iBase R.st R.cls T of) t ∧ 16 ≤ iBase R.st R.cls T of ∧ iBase R.st R.cls T of ≤ 8640 ∧ (of ≠ 1 → ∃ k s : Nat, KHad R (B.L.getD (of - 2) KBlk.no) (klater B.L (of - 2)) k s t ∧ iBase R.st R.cls T of = Cf.begin_ R.st R.cls k s) := by
 rcases h.at_ hT of h1 h2 with ⟨rfl, hat⟩ | ⟨k, s, t, hh, g1, g2, hat⟩
 ·have e : iBase R.st R.cls T 1 = 16 := by unfold iBase; rw [if_pos (by rw [hT.t1.1]; decide)]
  rw [e];exact ⟨0, hat, by omega, by omega, fun x => absurd rfl x⟩
 ·obtain ⟨q1, q2, q3, q4⟩ := hT.tn (of - 2) g2;rw [show of - 2 + 2 = of by omega] at q1 q2 q3 q4
  have e : iBase R.st R.cls T of = Cf.begin_ R.st R.cls k s := by
   unfold iBase;rw [q1, q2, hh.ek, hh.es, if_neg (by omega), Int.toNat_natCast]
  have hb := hh.bd h.ok.simb;rw [e];exact ⟨t, hat, by omega, by omega, fun _ => ⟨k, s, hh, rfl⟩⟩
theorem At.tame {of : Nat} {a t : Int} (hat : At B R of a t) (v : Int) (hw : iWild (a + v) = false) : 0 ≤ a + v ∧ a + v ≤ 65535 ∧ Ref.tameB (bp B of + v) = true ∧ (bp B of + v) % 72057594037927936 = a + v ∧ (bp B of + v) / 72057594037927936 = t := by
 have t0 := hat.t0;have t1 := hat.t1;have hw := of_decide_eq_false hw;rw [hat.q v];refine ⟨by omega, by omega, ?_, by omega, by omega⟩;unfold Ref.tameB;simp only [Bool.and_eq_true, decide_eq_true_eq];unfold Ref.U;omega
end
end Go.Proofs.YtjikemhmnkckcabGreat
