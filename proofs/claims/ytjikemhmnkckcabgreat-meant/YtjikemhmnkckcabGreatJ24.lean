import Derived.Test.YtjikemhmnkckcabGreatJ23
namespace Go.Proofs.YtjikemhmnkckcabGreat
open Go.RowKit
def RSt.r (R : RSt) (k s : Nat) : Int := if Ref.state R.log k s = 4 then max 0 (R.rest - Ref.since R.log k s) else 0
def cntTo (f : Nat → Bool) : Nat → Nat
 | 0 => 0
 | n + 1 => cntTo f n + if f n then 1 else 0
theorem cntTo_congr (f g : Nat → Bool) (n : Nat) (h : ∀ s, s < n → f s = g s) : cntTo f n = cntTo g n := by
 induction n with
 | zero => rfl
 | succ n ih => simp only [cntTo]; rw [ih fun s hs => h s (by omega), h n (by omega)]
theorem cntTo_none (f : Nat → Bool) (n : Nat) (h : ∀ s, s < n → f s = false) : cntTo f n = 0 := by
 induction n with
 | zero => rfl
 | succ n ih => simp only [cntTo]; rw [ih fun s hs => h s (by omega), h n (by omega)]; rfl
theorem cntTo_on (f g : Nat → Bool) (n s0 : Nat) (hs : s0 < n) (h : ∀ s, s < n → s ≠ s0 → f s = g s) (hf : f s0 = true) (hg : g s0 = false) : cntTo f n = cntTo g n + 1 := by
 induction n with
 | zero => omega
 | succ n ih =>
   simp only [cntTo]
   by_cases e : s0 = n
   ·subst e;rw [cntTo_congr f g s0 (fun s hs => h s (by omega) (by omega)), if_pos hf, if_neg (by rw [hg]; decide)]
   ·rw [ih (by omega) (fun s hs hn => h s (by omega) hn), h n (by omega) (fun x => e x.symm)]; omega
structure RestOk (R : RSt) (F : List (Int × Int)) : Prop where
 cnt : ∀ k, k < R.cls.length → ∀ v : Int, 1 ≤ v → cntTo (fun s => decide (R.r k s = v)) (Cf.sl R.cls k).toNat = if R.rest - kfreeN F R.rest k F.length < v ∧ v ≤ R.rest then 1 else 0
 look : ∀ (k s : Nat) (n : Int), 0 ≤ n → Ref.state R.log k s ≠ 3 → krestTo F R.rest k s F.length n = true → n < R.r k s
theorem r_live {R : RSt} {k s : Nat} (h : Ref.state R.log k s ≠ 4) : R.r k s = 0 := if_neg h
theorem r_bd {R : RSt} (hr : 0 ≤ R.rest) (k s : Nat) : 0 ≤ R.r k s ∧ R.r k s ≤ R.rest := by
 unfold RSt.r; split <;> omega
theorem r_gives (R : RSt) (e : Ref.Ev) (k s : Nat) (hg : e.gives k s = false) (hb : e.back = false) : RSt.r ⟨R.st, R.rest, R.cls, R.log ++ [e], R.marks⟩ k s = R.r k s := by
 have ht : e.takes k s = false := by simp [Ref.Ev.takes, hb]
 have hf : e.frees k = false := by simp [Ref.Ev.frees, hb]
 unfold RSt.r;show (if Ref.state (R.log ++ [e]) k s = 4 then max 0 (R.rest - Ref.since (R.log ++ [e]) k s) else 0) = _;rw [state_other _ _ _ _ hg ht]
 by_cases h4 : Ref.state R.log k s = 4
 ·rw [if_pos h4, if_pos h4]
  rcases state_of R.log k s with x | x | x
  ·omega
  ·omega
  ·rw [Ref.since_old _ _ _ _ hg x.2.2, hf]; simp
 ·rw [if_neg h4, if_neg h4]
theorem r_takes (R : RSt) (e : Ref.Ev) (k s : Nat) (hg : e.gives k s = false) (ht : e.takes k s = false) : RSt.r ⟨R.st, R.rest, R.cls, R.log ++ [e], R.marks⟩ k s = if e.frees k then max 0 (R.r k s - 1) else R.r k s := by
 unfold RSt.r;show (if Ref.state (R.log ++ [e]) k s = 4 then max 0 (R.rest - Ref.since (R.log ++ [e]) k s) else 0) = _;rw [state_other _ _ _ _ hg ht]
 by_cases h4 : Ref.state R.log k s = 4
 ·rw [if_pos h4, if_pos h4]
  rcases state_of R.log k s with x | x | x
  ·omega
  ·omega
  ·rw [Ref.since_old _ _ _ _ hg x.2.2]
   cases e.frees k
   ·simp
   ·simp only [if_true]; omega
 ·rw [if_neg h4, if_neg h4]
  cases e.frees k
  ·rfl
  ·simp only [if_true]; omega
theorem r_taken (R : RSt) (k s : Nat) (site : Int) (h3 : Ref.state R.log k s = 3) (hr : 0 ≤ R.rest) : RSt.r ⟨R.st, R.rest, R.cls, R.log ++ [⟨true, k, s, 0, 0, site⟩], R.marks⟩ k s = R.rest := by
 have hg := gives_no 0 0 site k s k s;have ht := (takes_eq 0 0 site k s k s).2 ⟨rfl, rfl⟩;have h4 := state_takes R.log _ k s hg ht h3;unfold RSt.r;show (if Ref.state (R.log ++ [_]) k s = 4 then max 0 (R.rest - Ref.since (R.log ++ [_]) k s) else 0) = _;rw [if_pos h4, Ref.since_new]
 ·simp; omega
 ·rw [Ref.gone_snoc _ _ _ _ hg]
  rcases state_of R.log k s with x | x | x
  ·omega
  ·rw [if_neg (by omega), if_pos ht]
  ·omega
theorem krestTo_old (F : List (Int × Int)) (x : Int × Int) (rest k s : Int) (m : Nat) (hm : m ≤ F.length) (n : Int) : krestTo (F ++ [x]) rest k s m n = krestTo F rest k s m n := by
 induction m generalizing n with
 | zero => rfl
 | succ m ih =>
   have e : (F ++ [x]).getD m spotNo = F.getD m spotNo := by rw [List.getD_eq_getElem?_getD, List.getElem?_append_left (by omega), ← List.getD_eq_getElem?_getD]
   simp only [krestTo, e, ih (by omega)]
theorem kfreeN_old (F : List (Int × Int)) (x : Int × Int) (rest k : Int) (m : Nat) (hm : m ≤ F.length) : kfreeN (F ++ [x]) rest k m = kfreeN F rest k m := by
 induction m with
 | zero => rfl
 | succ m ih =>
   have e : (F ++ [x]).getD m spotNo = F.getD m spotNo := by rw [List.getD_eq_getElem?_getD, List.getElem?_append_left (by omega), ← List.getD_eq_getElem?_getD]
   simp only [kfreeN, e, ih (by omega)]
theorem kfreeN_snoc (F : List (Int × Int)) (x : Int × Int) (rest k : Int) : kfreeN (F ++ [x]) rest k (F ++ [x]).length = if x.1 = k ∧ kfreeN F rest k F.length < rest then kfreeN F rest k F.length + 1 else kfreeN F rest k F.length := by
 rw [show (F ++ [x]).length = F.length + 1 by simp];have e : (F ++ [x]).getD F.length spotNo = x := by simp
 simp only [kfreeN, e, kfreeN_old F x rest k F.length (Nat.le_refl _)]
theorem krestTo_snoc (F : List (Int × Int)) (x : Int × Int) (rest k s n : Int) : krestTo (F ++ [x]) rest k s (F ++ [x]).length n = if n < rest then (if x.1 = k then (if x.2 = s then true else krestTo F rest k s F.length (n + 1)) else krestTo F rest k s F.length n) else false := by
 rw [show (F ++ [x]).length = F.length + 1 by simp];have e : (F ++ [x]).getD F.length spotNo = x := by simp
 simp only [krestTo, e, krestTo_old F x rest k s F.length (Nat.le_refl _)]
theorem RestOk.start (st rest : Int) (cls : List (Int × Int)) : RestOk ⟨st, rest, cls, [], []⟩ [] := by
 refine ⟨fun k _ v hv => ?_, fun k s n _ _ h => by simp [krestTo] at h⟩;show _ = if rest - 0 < v ∧ v ≤ rest then 1 else 0
 rw [if_neg (by omega)]
 exact cntTo_none _ _ fun s _ => by
  rw [r_live (show Ref.state [] (k : Int) (s : Int) ≠ 4 by show (2 : Int) ≠ 4; decide)];exact decide_eq_false (by omega)
theorem RestOk.gives {R : RSt} {F : List (Int × Int)} (h : RestOk R F) (k0 s0 : Nat) (t z site : Int) (hr0 : R.r k0 s0 = 0) : RestOk ⟨R.st, R.rest, R.cls, R.log ++ [⟨false, k0, s0, t, z, site⟩], R.marks⟩ F := by
 have key : ∀ k s : Nat, RSt.r ⟨R.st, R.rest, R.cls, R.log ++ [⟨false, k0, s0, t, z, site⟩], R.marks⟩ k s = R.r k s := fun k s => by
  by_cases e : k = k0 ∧ s = s0
  ·obtain ⟨rfl, rfl⟩ := e;rw [hr0, r_live];show Ref.state (R.log ++ [_]) k s ≠ 4;rw [state_gives _ _ _ _ ((gives_eq _ _ _ _ _ _ _).2 ⟨rfl, rfl⟩)]; decide
  ·refine r_gives R _ k s ?_ rfl
   cases eg : (⟨false, (k0 : Int), (s0 : Int), t, z, site⟩ : Ref.Ev).gives k s
   ·rfl
   ·exact absurd ((gives_eq _ _ _ _ _ _ _).1 eg) e
 refine ⟨fun k hk v hv => ?_, fun k s n hn hst hx => ?_⟩
 ·rw [cntTo_congr _ (fun s => decide (R.r k s = v)) _ (fun s _ => by rw [key])];exact h.cnt k hk v hv
 ·rw [key];refine h.look k s n hn ?_ hx;intro h3;apply hst;show Ref.state (R.log ++ [_]) k s = 3
  by_cases e : k = k0 ∧ s = s0
  ·obtain ⟨rfl, rfl⟩ := e;exact state_gives _ _ _ _ ((gives_eq _ _ _ _ _ _ _).2 ⟨rfl, rfl⟩)
  ·rw [state_other _ _ _ _ ?_ (takes_no _ _ _ _ _ _ _), h3]
   cases eg : (⟨false, (k0 : Int), (s0 : Int), t, z, site⟩ : Ref.Ev).gives k s
   ·rfl
   ·exact absurd ((gives_eq _ _ _ _ _ _ _).1 eg) e
theorem RestOk.takes {R : RSt} {F : List (Int × Int)} (h : RestOk R F) (hr : 0 ≤ R.rest) (k0 s0 : Nat) (site : Int) (hs0 : s0 < (Cf.sl R.cls k0).toNat) (h3 : Ref.state R.log k0 s0 = 3) : RestOk ⟨R.st, R.rest, R.cls, R.log ++ [⟨true, k0, s0, 0, 0, site⟩], R.marks⟩ (F ++ [((k0 : Int), (s0 : Int))]) := by
 have hold : R.r k0 s0 = 0 := r_live (by omega);have key0 := r_taken R k0 s0 site h3 hr
 have key : ∀ k s : Nat, ¬ (k = k0 ∧ s = s0) → RSt.r ⟨R.st, R.rest, R.cls, R.log ++ [⟨true, k0, s0, 0, 0, site⟩], R.marks⟩ k s = if k = k0 then max 0 (R.r k s - 1) else R.r k s := fun k s e => by
  rw [r_takes R _ k s (gives_no _ _ _ _ _ _ _) (by
   cases et : (⟨true, (k0 : Int), (s0 : Int), 0, 0, site⟩ : Ref.Ev).takes k s
   ·rfl
   ·exact absurd ((takes_eq _ _ _ _ _ _ _).1 et) e), frees_eq]
  by_cases ek : k = k0
  ·rw [if_pos (by simp [ek]), if_pos ek]
  ·rw [if_neg (by simp [ek]), if_neg ek]
 have hfb := kfreeN_bd F R.rest k0 F.length hr;refine ⟨fun k hk v hv => ?_, fun k s n hn hst hx => ?_⟩
 ·show _ = if R.rest - kfreeN (F ++ [((k0 : Int), (s0 : Int))]) R.rest k (F ++ [((k0 : Int), (s0 : Int))]).length < v ∧ v ≤ R.rest then 1 else 0
  rw [kfreeN_snoc];show cntTo _ (Cf.sl R.cls k).toNat = _
  by_cases ek : k = k0
  ·subst ek;have hold1 := h.cnt k hk (v + 1) (by omega)
   have hsn : (if ((k : Int), (s0 : Int)).1 = (k : Int) ∧ kfreeN F R.rest k F.length < R.rest then kfreeN F R.rest k F.length + 1 else kfreeN F R.rest k F.length) = if kfreeN F R.rest k F.length < R.rest then kfreeN F R.rest k F.length + 1 else kfreeN F R.rest k F.length := by
    by_cases c : kfreeN F R.rest k F.length < R.rest
    ·rw [if_pos ⟨rfl, c⟩, if_pos c]
    ·rw [if_neg (fun x => c x.2), if_neg c]
   rw [hsn];generalize kfreeN F R.rest k F.length = fn at *
   by_cases ev : v = R.rest
   ·have hon := cntTo_on (fun s => decide (RSt.r ⟨R.st, R.rest, R.cls, R.log ++ [⟨true, k, s0, 0, 0, site⟩], R.marks⟩ k s = v)) (fun s => decide (R.r k s = v + 1)) (Cf.sl R.cls k).toNat s0 hs0 (fun s _ hne => by
     have := key k s (fun x => hne x.2);rw [if_pos rfl] at this;have hb := r_bd hr k s;rw [this];exact decide_eq_decide.2 (by omega)) (decide_eq_true (by rw [key0, ev])) (decide_eq_false (by rw [hold]; omega))
    rw [hon, hold1, if_neg (by omega), if_pos]
    constructor
    ·split <;> omega
    ·omega
   ·rw [cntTo_congr _ (fun s => decide (R.r k s = v + 1)) _ (fun s _ => by
     by_cases es : s = s0
     ·subst es;rw [key0, hold];exact decide_eq_decide.2 (by omega)
     ·have := key k s (fun x => es x.2);rw [if_pos rfl] at this;rw [this];exact decide_eq_decide.2 (by omega)), hold1]
    by_cases c : fn < R.rest
    ·rw [if_pos c]
     by_cases c2 : R.rest - fn < v + 1 ∧ v + 1 ≤ R.rest
     ·rw [if_pos c2, if_pos (by omega)]
     ·rw [if_neg c2, if_neg (by omega)]
    ·rw [if_neg c]
     by_cases c2 : R.rest - fn < v + 1 ∧ v + 1 ≤ R.rest
     ·rw [if_pos c2, if_pos (by omega)]
     ·rw [if_neg c2, if_neg (by omega)]
  ·rw [cntTo_congr _ (fun s => decide (R.r k s = v)) _ (fun s _ => by rw [key k s (fun x => ek x.1), if_neg ek]), h.cnt k hk v hv, if_neg (c := ((k0 : Int), (s0 : Int)).1 = (k : Int) ∧ _) (fun x => ek (by have := x.1; simp at this; omega))]
 ·rw [krestTo_snoc] at hx
  by_cases e : k = k0 ∧ s = s0
  ·obtain ⟨rfl, rfl⟩ := e;rw [key0]
   by_cases c : n < R.rest
   ·exact c
   ·change (if n < R.rest then _ else _) = true at hx;rw [if_neg c] at hx; simp at hx
  ·have hst2 : Ref.state R.log k s ≠ 3 := fun x => hst (by
    show Ref.state (R.log ++ [_]) k s = 3
    rw [state_other _ _ _ _ (gives_no _ _ _ _ _ _ _) (by
     cases et : (⟨true, (k0 : Int), (s0 : Int), 0, 0, site⟩ : Ref.Ev).takes k s
     ·rfl
     ·exact absurd ((takes_eq _ _ _ _ _ _ _).1 et) e), x])
   rw [key k s e];change (if n < R.rest then _ else _) = true at hx
   by_cases c : n < R.rest
   ·rw [if_pos c] at hx
    by_cases ek : k = k0
    ·subst ek;rw [if_pos rfl];rw [if_pos (show ((k : Int), (s0 : Int)).1 = (k : Int) from rfl), if_neg (show ¬ (((k : Int), (s0 : Int)).2 = (s : Int)) from fun x => e ⟨rfl, by simp at x; omega⟩)] at hx;have := h.look k s (n + 1) (by omega) hst2 hx;omega
    ·rw [if_neg ek];rw [if_neg (show ¬ (((k0 : Int), (s0 : Int)).1 = (k : Int)) from fun x => ek (by simp at x; omega))] at hx;exact h.look k s n hn hst2 hx
   ·rw [if_neg c] at hx; simp at hx
theorem gcls_cases (cls : List (Int × Int)) (size : Int) : gcls cls size = -1 ∨ ∃ k : Nat, gcls cls size = (k : Int) ∧ k < cls.length ∧ 1 ≤ size ∧ size ≤ 16 * Cf.gr cls k ∧ Ref.cls_ cls size = k := by
 unfold gcls
 by_cases h : size < 1 ∨ Ref.cls_ cls size = cls.length
 ·rw [if_pos h]; exact .inl rfl
 ·rw [if_neg h];have := Ref.cls_le cls size;exact .inr ⟨_, rfl, by omega, by omega, Ref.cls_at cls size (by omega), rfl⟩
theorem row_set {w : World} {e : TypeId} {m : Nat} {n : Nat} {xs : List Value} {g cap : Nat} (h : w.ownsRow 0 e m (.slice (some ⟨g, 0, none⟩) n cap) n xs) (j : Nat) (x : Value) : (w.setCell ⟨g, j, none⟩ x).ownsRow 0 e m (.slice (some ⟨g, 0, none⟩) n cap) n (xs.set j x) := by
 refine ⟨by rw [List.length_set]; exact h.1, ?_⟩
 rcases h.2 with ⟨e0, _⟩ | ⟨g', cap', cur, hv, _, hg, hnc, hcm, hcs, htake⟩
 ·cases e0
 ·injection hv with e1 e2 e3;injection e1 with e1;injection e1 with e1 _ _;subst e1;subst e3;have hb : Blk w g e cur.toList := by unfold Blk; rw [hg]
  have hb2 := hb.setCell j x;unfold Blk at hb2;refine .inr ⟨g, cap, (cur.toList.set j x).toArray, rfl, Nat.zero_le _, hb2, hnc, hcm, ?_, ?_⟩
  ·rw [List.size_toArray, List.length_set, Array.length_toList]; exact hcs
  ·rw [List.toList_toArray, ← htake, List.take_set]
def KBlk.withWant (x : KBlk) (want : List Int) : KBlk := ⟨x.p, x.k, x.s, want, x.wb, x.live, x.site, x.gone⟩
theorem getD_setL (L : List KBlk) (i j : Nat) (x : KBlk) (hi : i < L.length) : (L.set i x).getD j KBlk.no = if j = i then x else L.getD j KBlk.no := by
 simp only [List.getD_eq_getElem?_getD, List.getElem?_set]
 by_cases h : i = j
 ·subst h; simp [hi]
 ·rw [if_neg h, if_neg (fun e => h e.symm)]
section
variable {w w' : World} {pb ph : Nat} {gc : Value} {bb : Nat} {G : GSt} {vc vL vF : Value} {B : KSt}
end
end Go.Proofs.YtjikemhmnkckcabGreat
