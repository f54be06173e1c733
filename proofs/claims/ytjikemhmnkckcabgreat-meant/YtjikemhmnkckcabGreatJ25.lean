import Derived.Test.YtjikemhmnkckcabGreatJ24
namespace Go.Proofs.YtjikemhmnkckcabGreat
open Go.RowKit
structure KLive (R : RSt) (x : KBlk) (k s : Nat) : Prop where
 ek : x.k = k
 es : x.s = s
 hk : k < R.cls.length
 hs : s < (Cf.sl R.cls k).toNat
 st : Ref.state R.log k s = 3
 p : x.p = Ref.last R.log k s * 72057594037927936 + Cf.begin_ R.st R.cls k s
 len : (x.want.length : Int) = 16 * (R.log.getD (Ref.given R.log k s).toNat Ref.Ev.no).size
 byte : ∀ t : Nat, t < x.want.length → x.want.getD t 0 = R.byte (Cf.begin_ R.st R.cls k s + t)
section
variable {G : GSt} {R : RSt} {x : KBlk} {k s : Nat}
theorem KLive.bd (h : KLive R x k s) (hs : SimB G R) : 1 ≤ Ref.last R.log k s ∧ Ref.last R.log k s ≤ 14 ∧ 32 ≤ Cf.begin_ R.st R.cls k s ∧ Cf.begin_ R.st R.cls k s ≤ 8640 ∧ x.want.length ≤ 128 ∧ 16 ≤ x.want.length ∧ (x.want.length : Int) ≤ 16 * Cf.gr R.cls k := by
 have h1 := hs.fits.tag k s (live_given h.st);have h2 := hs.fits.size k s (live_given h.st);have hv := hs.sim.rok.conf;have h3 := Cf.begin_bd hv k h.hk s (by omega) (by have := hv.s1 k h.hk; have := h.hs; omega);have h4 := hv.g1 k h.hk;have h5 := h.len;omega
theorem KLive.at_ (h : KLive R x k s) (hs : SimB G R) (j : Nat) (hj : j < x.want.length) : (x.p + j) % 72057594037927936 = Cf.begin_ R.st R.cls k s + j ∧ (x.p + j) / 72057594037927936 = Ref.last R.log k s ∧ Ref.tameB (x.p + j) = true := by
 have h1 := h.bd hs;have h2 := h.p;refine ⟨by omega, by omega, (tame_iff _).2 ⟨by omega, by omega, by omega⟩⟩
theorem KLive.block (h : KLive R x k s) (hs : SimB G R) : Ref.block R.st R.cls R.log x.p = ((k : Int), (s : Int), 0) := by
 have h1 := h.bd hs;have h2 := h.at_ hs 0 (by omega);simp only [Int.natCast_zero, Int.add_zero] at h2;exact (block_iff hs.sim.rok.conf R.log x.p k s).2 ⟨h.hk, h.hs, h2.2.2, h2.1.symm, h2.2.1.symm, h.st⟩
theorem KLive.tag (h : KLive R x k s) (hs : SimB G R) (j : Nat) (hj : j < x.want.length) : R.tag (Cf.begin_ R.st R.cls k s + j) = Ref.last R.log k s := by
 have h5 := h.len;exact tag_live hs.sim.rok.conf k s h.hk h.hs h.st _ (by omega) (by omega) (hs.fits.size k s (live_given h.st)).2
end
def klaterTo (L : List KBlk) (i : Nat) : Nat → Nat
 | 0 => 0
 | m + 1 => klaterTo L i m + if i < m ∧ (L.getD m KBlk.no).k = (L.getD i KBlk.no).k ∧ (L.getD m KBlk.no).s = (L.getD i KBlk.no).s then 1 else 0
def klater (L : List KBlk) (i : Nat) : Nat := klaterTo L i L.length
theorem klaterTo_early (L : List KBlk) (i m : Nat) (h : m ≤ i + 1) : klaterTo L i m = 0 := by
 induction m with
 | zero => rfl
 | succ m ih => simp only [klaterTo]; rw [ih (by omega), if_neg (by omega)]
theorem klaterTo_congr (L M : List KBlk) (i m : Nat) (h : ∀ j, j < m ∨ j = i → (L.getD j KBlk.no).k = (M.getD j KBlk.no).k ∧ (L.getD j KBlk.no).s = (M.getD j KBlk.no).s) : klaterTo L i m = klaterTo M i m := by
 induction m with
 | zero => rfl
 | succ m ih =>
   simp only [klaterTo];rw [ih (fun j hj => h j (by omega)), (h m (by omega)).1, (h m (by omega)).2, (h i (by omega)).1, (h i (by omega)).2]
theorem klaterTo_pos (L : List KBlk) (i j m : Nat) (hij : i < j) (hj : j < m) (hk : (L.getD j KBlk.no).k = (L.getD i KBlk.no).k) (hs : (L.getD j KBlk.no).s = (L.getD i KBlk.no).s) : 0 < klaterTo L i m := by
 induction m with
 | zero => omega
 | succ m ih =>
   simp only [klaterTo]
   by_cases e : j = m
   ·subst e; rw [if_pos ⟨hij, hk, hs⟩]; omega
   ·have := ih (by omega); omega
theorem klater_uniq (L : List KBlk) (i j : Nat) (hi : i < L.length) (hj : j < L.length) (hk : (L.getD j KBlk.no).k = (L.getD i KBlk.no).k) (hs : (L.getD j KBlk.no).s = (L.getD i KBlk.no).s) (zi : klater L i = 0) (zj : klater L j = 0) : i = j := by
 rcases Nat.lt_trichotomy i j with h | h | h
 ·have := klaterTo_pos L i j L.length h hj hk hs; unfold klater at zi; omega
 ·exact h
 ·have := klaterTo_pos L j i L.length h hi hk.symm hs.symm; unfold klater at zj; omega
structure KHad (R : RSt) (x : KBlk) (n : Nat) (k s : Nat) (t : Int) : Prop where
 ek : x.k = k
 es : x.s = s
 hk : k < R.cls.length
 hs : s < (Cf.sl R.cls k).toNat
 gv : 0 ≤ Ref.given R.log k s
 t0 : 1 ≤ t
 t1 : t ≤ 14
 p : x.p = t * 72057594037927936 + Cf.begin_ R.st R.cls k s
 cur : n = 0 → t = Ref.last R.log k s ∧ (R.log.getD (Ref.given R.log k s).toNat Ref.Ev.no).site = x.site
 dead : n = 0 → x.live = false → Ref.state R.log k s = 4 ∧ (R.log.getD (Ref.gone R.log k s).toNat Ref.Ev.no).site = x.gone
 old : n = 1 → t ≠ Ref.last R.log k s
 lv : x.live = true → n = 0 ∧ x.gone = 0
theorem gone_other (log : List Ref.Ev) (e : Ref.Ev) (k s : Int) (hg : e.gives k s = false) (ht : e.takes k s = false) : Ref.gone (log ++ [e]) k s = Ref.gone log k s := by
 rw [Ref.gone_snoc log e k s hg, ht];have := Ref.gone_lo log k s
 by_cases h : 0 ≤ Ref.gone log k s
 ·rw [if_pos h]
 ·rw [if_neg h]; simp; omega
theorem gone_hi4 {log : List Ref.Ev} {k s : Int} (h : Ref.state log k s = 4) : 0 ≤ Ref.gone log k s ∧ Ref.gone log k s < log.length := by
 rcases state_of log k s with x | x | x
 ·omega
 ·omega
 ·exact ⟨x.2.2, Ref.gone_hi log k s⟩
theorem KHad.other {R : RSt} {x : KBlk} {n k s : Nat} {t : Int} (h : KHad R x n k s t) (e : Ref.Ev) (hg : e.gives k s = false) (ht : e.takes k s = false) : KHad ⟨R.st, R.rest, R.cls, R.log ++ [e], R.marks⟩ x n k s t := by
 refine ⟨h.ek, h.es, h.hk, h.hs, ?_, h.t0, h.t1, h.p, fun hn => ?_, fun hn hl => ?_, fun hn => ?_, h.lv⟩
 ·show 0 ≤ Ref.given (R.log ++ [e]) k s;rw [given_other _ _ _ _ hg]; exact h.gv
 ·show t = Ref.last (R.log ++ [e]) k s ∧ ((R.log ++ [e]).getD (Ref.given (R.log ++ [e]) k s).toNat Ref.Ev.no).site = x.site;rw [last_other _ _ _ _ hg, size_other _ _ _ _ hg h.gv]; exact h.cur hn
 ·show Ref.state (R.log ++ [e]) k s = 4 ∧ ((R.log ++ [e]).getD (Ref.gone (R.log ++ [e]) k s).toNat Ref.Ev.no).site = x.gone;have hd := h.dead hn hl;have hh := gone_hi4 hd.1;rw [state_other _ _ _ _ hg ht, gone_other _ _ _ _ hg ht, Ref.getD_old _ _ _ (by omega)]; exact hd
 ·show t ≠ Ref.last (R.log ++ [e]) k s;rw [last_other _ _ _ _ hg]; exact h.old hn
structure KOk (B : KSt) (G : GSt) (R : RSt) : Prop where
 simb : SimB G R
 st : B.st = R.st
 rest : B.rest = R.rest
 cls : B.cls = R.cls
 rests : RestOk R B.F
 live : ∀ j, j < B.L.length → (B.L.getD j KBlk.no).live = true → ∃ k s : Nat, KLive R (B.L.getD j KBlk.no) k s
 uniq : ∀ i j, i < B.L.length → j < B.L.length → (B.L.getD i KBlk.no).live = true → (B.L.getD j KBlk.no).live = true → (B.L.getD i KBlk.no).k = (B.L.getD j KBlk.no).k → (B.L.getD i KBlk.no).s = (B.L.getD j KBlk.no).s → i = j
 cnt : ∀ k, k < R.cls.length → kliveN B.L k B.L.length = cntTo (fun s => decide (Ref.state R.log k s = 3)) (Cf.sl R.cls k).toNat
 had : ∀ i, i < B.L.length → ∃ (k s : Nat) (t : Int), KHad R (B.L.getD i KBlk.no) (klater B.L i) k s t
 nb : ∀ k s : Nat, 0 ≤ Ref.given R.log k s → 0 ≤ Ref.given R.log k ((s : Int) + 1) → Ref.last R.log k s ≠ Ref.last R.log k ((s : Int) + 1)
theorem rests_r {R : RSt} (hl : LogOk R) (k s : Nat) (h3 : Ref.state R.log k s ≠ 3) : Ref.rests R.log R.rest k s = decide (0 < R.r k s) := by
 unfold Ref.rests RSt.r
 rcases state_of R.log k s with x | x | x
 ·rw [if_pos (hl.vir k s x.2), if_neg (by omega)]; rfl
 ·omega
 ·rw [if_neg (by omega), if_pos x.1];exact decide_eq_decide.2 (by omega)
section
variable {B : KSt} {G : GSt} {R : RSt}
theorem KOk.chosen (h : KOk B G R) (k s : Nat) (ho : Ref.openB R.log R.rest k s = true) : klive B.L k s = false ∧ krests B.F B.rest k s = false ∧ R.r k s = 0 ∧ Ref.state R.log k s ≠ 3 := by
 have h3 : Ref.state R.log k s ≠ 3 := fun e => by unfold Ref.openB at ho; simp [e] at ho
 have hr : R.r k s = 0 := by
  have := r_bd (R := R) h.simb.sim.rok.conf.re0 k s;have hx := rests_r h.simb.sim.log k s h3;unfold Ref.openB at ho;rw [hx] at ho;simp at ho;omega
 refine ⟨?_, ?_, hr, h3⟩
 ·have aux : ∀ n, n ≤ B.L.length → kliveTo B.L k s n = false := by
   intro n
   induction n with
   | zero => intro _; rfl
   | succ n ih =>
     intro hn;simp only [kliveTo];rw [ih (by omega), Bool.false_or]
     cases e : ((B.L.getD n KBlk.no).live && (B.L.getD n KBlk.no).k == (k : Int) && (B.L.getD n KBlk.no).s == (s : Int))
     ·rfl
     ·exfalso;simp only [Bool.and_eq_true, beq_iff_eq] at e;obtain ⟨k', s', hl⟩ := h.live n (by omega) e.1.1;have e1 := hl.ek;have e2 := hl.es;rw [e.1.2] at e1;rw [e.2] at e2;obtain rfl : k = k' := by omega
      obtain rfl : s = s' := by omega
      exact h3 hl.st
  exact aux B.L.length (Nat.le_refl _)
 ·cases e : krests B.F B.rest k s
  ·rfl
  ·rw [h.rest] at e;have := h.rests.look k s 0 (by omega) h3 e;omega
end
theorem getD_appL (L : List KBlk) (x : KBlk) (i : Nat) : (L ++ [x]).getD i KBlk.no = if i = L.length then x else L.getD i KBlk.no := by
 by_cases h : i < L.length
 ·rw [if_neg (by omega), List.getD_eq_getElem?_getD, List.getElem?_append_left h, ← List.getD_eq_getElem?_getD]
 ·by_cases e : i = L.length
  ·subst e; simp
  ·rw [if_neg e, List.getD_eq_getElem?_getD, List.getD_eq_getElem?_getD, List.getElem?_eq_none (by simp; omega), List.getElem?_eq_none (by omega)]
def kind (x : KBlk) (k : Int) : Nat := if x.live = true ∧ x.k = k then 1 else 0
theorem kliveN_congr (L M : List KBlk) (k : Int) (m : Nat) (h : ∀ i, i < m → kind (L.getD i KBlk.no) k = kind (M.getD i KBlk.no) k) : kliveN L k m = kliveN M k m := by
 induction m with
 | zero => rfl
 | succ m ih =>
   have := h m (by omega);simp only [kind] at this;simp only [kliveN];rw [ih fun i hi => h i (by omega), this]
theorem kliveN_app (L : List KBlk) (x : KBlk) (k : Int) : kliveN (L ++ [x]) k (L ++ [x]).length = kliveN L k L.length + kind x k := by
 rw [show (L ++ [x]).length = L.length + 1 by simp];have e : kliveN (L ++ [x]) k L.length = kliveN L k L.length := kliveN_congr _ _ _ _ fun i hi => by rw [getD_appL, if_neg (by omega)]
 simp only [kliveN];rw [e, getD_appL, if_pos rfl]; rfl
theorem kliveN_set (L : List KBlk) (i : Nat) (y : KBlk) (k : Int) (hi : i < L.length) (m : Nat) (him : i < m) : kliveN (L.set i y) k m + kind (L.getD i KBlk.no) k = kliveN L k m + kind y k := by
 induction m with
 | zero => omega
 | succ m ih =>
   simp only [kliveN]
   by_cases e : i = m
   ·subst e;rw [getD_setL _ _ _ _ hi, if_pos rfl, kliveN_congr (L.set i y) L k i (fun j hj => by rw [getD_setL _ _ _ _ hi, if_neg (by omega)])];simp only [kind];omega
   ·have := ih (by omega);have hm : (L.set i y).getD m KBlk.no = L.getD m KBlk.no := by rw [getD_setL _ _ _ _ hi, if_neg (show ¬ m = i from fun x => e x.symm)]
    rw [hm];omega
theorem KLive.other {R : RSt} {x : KBlk} {k s : Nat} (h : KLive R x k s) (hv : Cf.Valid R.st R.rest R.cls) (hf : Fits R) (e : Ref.Ev) (hg : e.gives k s = false) (ht : e.takes k s = false) : KLive ⟨R.st, R.rest, R.cls, R.log ++ [e], R.marks⟩ x k s := by
 have hgv := live_given h.st;have hz := (hf.size k s hgv).2;refine ⟨h.ek, h.es, h.hk, h.hs, ?_, ?_, ?_, fun t hlt => ?_⟩
 ·show Ref.state (R.log ++ [e]) k s = 3;rw [state_other _ _ _ _ hg ht]; exact h.st
 ·show x.p = Ref.last (R.log ++ [e]) k s * 72057594037927936 + _;rw [last_other _ _ _ _ hg]; exact h.p
 ·show (x.want.length : Int) = 16 * ((R.log ++ [e]).getD (Ref.given (R.log ++ [e]) k s).toNat Ref.Ev.no).size;rw [size_other _ _ _ _ hg hgv]; exact h.len
 ·have hlen := h.len;rw [h.byte t hlt];refine (RSt.byte_event R e _ (fun _ => ?_)).symm;rw [slot_at hv k s h.hk h.hs (Cf.begin_ R.st R.cls k s + t) (by omega) (by omega)];exact hg
theorem KLive.marks {R R' : RSt} {x : KBlk} {k s : Nat} (h : KLive R x k s) (h1 : R'.st = R.st) (h3 : R'.cls = R.cls) (h4 : R'.log = R.log) (want : List Int) (hl : want.length = x.want.length)
 (hb : ∀ t : Nat, t < want.length → want.getD t 0 = R'.byte (Cf.begin_ R.st R.cls k s + t)) : KLive R' (x.withWant want) k s := by
 refine ⟨h.ek, h.es, by rw [h3]; exact h.hk, by rw [h3]; exact h.hs, by rw [h4]; exact h.st, by rw [h1, h3, h4]; exact h.p, by rw [h4]; show (want.length : Int) = _; rw [hl]; exact h.len, fun t ht => by rw [h1, h3]; exact hb t ht⟩
section
variable {B : KSt} {G : GSt} {R : RSt}
theorem KOk.at_now (h : KOk B G R) (n : Int) : KOk ⟨B.st, B.rest, B.cls, B.L, B.F, n⟩ G R := ⟨h.simb, h.st, h.rest, h.cls, h.rests, h.live, h.uniq, h.cnt, h.had, h.nb⟩
theorem KOk.malloc (h : KOk B G R) (size draw site now : Int) (hsn : site = now) (wb : Nat) (k s : Nat) (h1 : 1 ≤ size) (hk : Ref.cls_ R.cls size = k) (hkl : k < R.cls.length) (hf : Ref.first R.log R.rest R.cls k = (s : Int)) (hs : s < (Cf.sl R.cls k).toNat) (hz : size ≤ 16 * Cf.gr R.cls k)
 (hm : mOut R size draw = ((Ref.tagOf R.log k s draw : Int) * 72057594037927936 + Cf.begin_ R.st R.cls k s, 0)) :
 KOk ⟨B.st, B.rest, B.cls, B.L ++ [⟨(Ref.tagOf R.log k s draw : Int) * 72057594037927936 + Cf.begin_ R.st R.cls k s, k, s, List.replicate (16 * Ref.gsz size).toNat 0, wb, true, now, 0⟩], B.F, B.now⟩ (mG G R size draw site) (mR R size draw site) := by
 have hsb := h.simb.malloc size draw site;have hr := mR_ok (draw := draw) (site := site) hk hf (by rw [hm]);rw [hr] at hsb ⊢;have hat := Ref.firstFrom_at (Ref.openB R.log R.rest k) (Cf.sl R.cls k).toNat 0 (by change 0 ≤ Ref.first R.log R.rest R.cls k; omega);have ho := hat.2;change Ref.openB R.log R.rest k (Ref.first R.log R.rest R.cls k).toNat = true at ho;rw [hf, Int.toNat_natCast] at ho;obtain ⟨_, _, hr0, h3⟩ := h.chosen k s ho;have hv := h.simb.sim.rok.conf;have hfit := gsz_fit h1 hz;obtain ⟨e, he⟩ : ∃ e : Ref.Ev, e = ⟨false, k, s, Ref.tagOf R.log k s draw, Ref.gsz size, site⟩ := ⟨_, rfl⟩
 have hgv : e.gives k s = true := by rw [he]; exact (gives_eq _ _ _ _ _ _ _).2 ⟨rfl, rfl⟩
 have hno : ∀ k' s' : Nat, ¬ (k' = k ∧ s' = s) → e.gives k' s' = false ∧ e.takes k' s' = false := fun k' s' hne => by
  constructor
  ·cases eg : e.gives k' s'
   ·rfl
   ·rw [he] at eg; exact absurd ((gives_eq _ _ _ _ _ _ _).1 eg) hne
  ·rw [he]; exact takes_no _ _ _ _ _ _ _
 have hrs := h.rests.gives k s (Ref.tagOf R.log k s draw) (Ref.gsz size) site hr0;obtain ⟨x, hx⟩ : ∃ x : KBlk, x = ⟨(Ref.tagOf R.log k s draw : Int) * 72057594037927936 + Cf.begin_ R.st R.cls k s, k, s, List.replicate (16 * Ref.gsz size).toNat 0, wb, true, now, 0⟩ := ⟨_, rfl⟩
 have hnew : KLive ⟨R.st, R.rest, R.cls, R.log ++ [e], R.marks⟩ x k s := by
  refine ⟨by rw [hx], by rw [hx], hkl, hs, state_gives _ _ _ _ hgv, ?_, ?_, fun t ht => ?_⟩
  ·show x.p = Ref.last (R.log ++ [e]) k s * 72057594037927936 + _;rw [last_gives _ _ _ _ hgv, he, hx]
  ·show (x.want.length : Int) = 16 * ((R.log ++ [e]).getD (Ref.given (R.log ++ [e]) k s).toNat Ref.Ev.no).size;rw [size_gives _ _ _ _ hgv, he, hx];show ((List.replicate (16 * Ref.gsz size).toNat (0 : Int)).length : Int) = 16 * Ref.gsz size;rw [List.length_replicate]; omega
  ·have hlt : (t : Int) < 16 * Ref.gsz size := by
    rw [hx] at ht;change t < (List.replicate (16 * Ref.gsz size).toNat (0 : Int)).length at ht;rw [List.length_replicate] at ht; omega
   have hsl := slot_at hv k s hkl hs (Cf.begin_ R.st R.cls k s + t) (by omega) (by omega);show x.want.getD t 0 = RSt.byte ⟨R.st, R.rest, R.cls, R.log ++ [e], R.marks⟩ (Cf.begin_ R.st R.cls k s + t);rw [RSt.byte_gives h.simb.marks e _ (by rw [hsl]; simp) (by rw [hsl]; exact hgv), hx];show (List.replicate (16 * Ref.gsz size).toNat (0 : Int)).getD t 0 = 0;rw [List.getD_eq_getElem?_getD, List.getElem?_replicate]; split <;> rfl
 rw [← he] at hsb hrs ⊢;rw [← hx];have hll : (B.L ++ [x]).length = B.L.length + 1 := by simp
 have hxks : x.k = k ∧ x.s = s := by rw [hx]; exact ⟨rfl, rfl⟩
 have htag := (PickMath.ok_iff _ _ _ _).1 (PickMath.pick_ok (Ref.last R.log k s) (Ref.last R.log k ((s : Int) - 1)) (Ref.last R.log k ((s : Int) + 1)) draw);change (Ref.tagOf R.log k s draw : Int) ≠ _ ∧ (Ref.tagOf R.log k s draw : Int) ≠ _ ∧ (Ref.tagOf R.log k s draw : Int) ≠ _ at htag;have het : e.tag = (Ref.tagOf R.log k s draw : Int) := by rw [he]
 have hgiv : ∀ k' s' : Int, e.gives k' s' = true → k' = k ∧ s' = s := fun k' s' hg => by
  rw [he] at hg;simp only [Ref.Ev.gives, Bool.and_eq_true, Bool.not_eq_true', beq_iff_eq] at hg;omega
 have hhad : ∀ i, i < (B.L ++ [x]).length → ∃ (k s : Nat) (t : Int), KHad ⟨R.st, R.rest, R.cls, R.log ++ [e], R.marks⟩ ((B.L ++ [x]).getD i KBlk.no) (klater (B.L ++ [x]) i) k s t := fun i hi => by
  by_cases ei : i = B.L.length
  ·subst ei;have hkz : klater (B.L ++ [x]) B.L.length = 0 := klaterTo_early _ _ _ (by rw [hll]; omega);rw [getD_appL, if_pos rfl, hkz];refine ⟨k, s, e.tag, hxks.1, hxks.2, hkl, hs, ?_, ?_, ?_, ?_, fun _ => ?_, fun _ hl => ?_, fun h => absurd h (by omega), fun _ => ⟨rfl, by rw [hx]⟩⟩
   ·show 0 ≤ Ref.given (R.log ++ [e]) k s;rw [Ref.given_snoc, if_pos hgv]; omega
   ·have := PickMath.pick_lo (Ref.last R.log k s) (Ref.last R.log k ((s : Int) - 1)) (Ref.last R.log k ((s : Int) + 1)) draw;change 1 ≤ Ref.tagOf R.log k s draw at this;omega
   ·have := PickMath.pick_hi (Ref.last R.log k s) (Ref.last R.log k ((s : Int) - 1)) (Ref.last R.log k ((s : Int) + 1)) draw;change Ref.tagOf R.log k s draw ≤ 14 at this;omega
   ·rw [het, hx]
   ·show e.tag = Ref.last (R.log ++ [e]) k s ∧ ((R.log ++ [e]).getD (Ref.given (R.log ++ [e]) k s).toNat Ref.Ev.no).site = x.site;rw [last_gives _ _ _ _ hgv, size_gives _ _ _ _ hgv, he, hx]; exact ⟨rfl, hsn⟩
   ·rw [hx] at hl; cases hl
  ·have hi' : i < B.L.length := by omega
   obtain ⟨k', s', t, hh⟩ := h.had i hi';have hgi : (B.L ++ [x]).getD i KBlk.no = B.L.getD i KBlk.no := by rw [getD_appL, if_neg ei]
   have hkl1 : klater (B.L ++ [x]) i = klater B.L i + if x.k = (B.L.getD i KBlk.no).k ∧ x.s = (B.L.getD i KBlk.no).s then 1 else 0 := by
    have hc := klaterTo_congr (B.L ++ [x]) B.L i B.L.length (fun j hj => by rw [getD_appL, if_neg (by omega)]; exact ⟨rfl, rfl⟩);unfold klater;rw [hll];simp only [klaterTo];rw [hc, getD_appL, if_pos rfl, hgi]
    by_cases c : x.k = (B.L.getD i KBlk.no).k ∧ x.s = (B.L.getD i KBlk.no).s
    ·rw [if_pos c, if_pos ⟨hi', c⟩]
    ·rw [if_neg c, if_neg (fun y => c y.2)]
   rw [hgi, hkl1]
   by_cases c : k' = k ∧ s' = s
   ·obtain ⟨rfl, rfl⟩ := c;rw [if_pos ⟨by rw [hxks.1, hh.ek], by rw [hxks.2, hh.es]⟩];refine ⟨k', s', t, hh.ek, hh.es, hh.hk, hh.hs, ?_, hh.t0, hh.t1, hh.p, fun h => absurd h (by omega), fun h => absurd h (by omega), fun hn => ?_, fun hl => ?_⟩
    ·show 0 ≤ Ref.given (R.log ++ [e]) k' s';rw [Ref.given_snoc, if_pos hgv]; omega
    ·show t ≠ Ref.last (R.log ++ [e]) k' s';rw [last_gives _ _ _ _ hgv, het, (hh.cur (by omega)).1];exact fun y => htag.1 y.symm
    ·exfalso;obtain ⟨k2, s2, hl2⟩ := h.live i hi' hl;have a1 := hl2.ek;have a2 := hl2.es;rw [hh.ek] at a1;rw [hh.es] at a2;exact h3 (by rw [show k' = k2 by omega, show s' = s2 by omega]; exact hl2.st)
   ·rw [if_neg (fun y => c (by have := y.1; have := y.2; rw [hxks.1, hh.ek] at *; rw [hxks.2, hh.es] at *; omega)), Nat.add_zero];exact ⟨k', s', t, hh.other e (hno k' s' c).1 (hno k' s' c).2⟩
 have hnb : ∀ k' s' : Nat, 0 ≤ Ref.given (R.log ++ [e]) k' s' → 0 ≤ Ref.given (R.log ++ [e]) k' ((s' : Int) + 1) → Ref.last (R.log ++ [e]) k' s' ≠ Ref.last (R.log ++ [e]) k' ((s' : Int) + 1) := fun k' s' g1 g2 => by
  cases c1 : e.gives k' s'
  ·cases c2 : e.gives k' ((s' : Int) + 1)
   ·rw [given_other _ _ _ _ c1] at g1;rw [given_other _ _ _ _ c2] at g2;rw [last_other _ _ _ _ c1, last_other _ _ _ _ c2];exact h.nb k' s' g1 g2
   ·obtain ⟨a1, a2⟩ := hgiv _ _ c2;rw [last_other _ _ _ _ c1, last_gives _ _ _ _ c2, het, a1, show (s' : Int) = (s : Int) - 1 by omega];exact fun y => htag.2.1 y.symm
  ·obtain ⟨a1, a2⟩ := hgiv _ _ c1
   have c2 : e.gives k' ((s' : Int) + 1) = false := by
    cases c2 : e.gives k' ((s' : Int) + 1)
    ·rfl
    ·have := (hgiv _ _ c2).2; omega
   rw [last_gives _ _ _ _ c1, last_other _ _ _ _ c2, het, a1, a2];exact htag.2.2
 refine ⟨hsb, h.st, h.rest, h.cls, hrs, fun j hj hlv => ?_, fun i j hi hj li lj e1 e2 => ?_, fun k' hk' => ?_, hhad, hnb⟩
 ·change j < (B.L ++ [x]).length at hj;change ((B.L ++ [x]).getD j KBlk.no).live = true at hlv;show ∃ k s : Nat, KLive _ ((B.L ++ [x]).getD j KBlk.no) k s;rw [getD_appL] at hlv ⊢
  by_cases ej : j = B.L.length
  ·rw [if_pos ej]; exact ⟨k, s, hnew⟩
  ·rw [if_neg ej] at hlv ⊢;obtain ⟨k', s', hl⟩ := h.live j (by omega) hlv;have hne : ¬ (k' = k ∧ s' = s) := fun x => h3 (by rw [← x.1, ← x.2]; exact hl.st)
   exact ⟨k', s', hl.other hv h.simb.fits e (hno k' s' hne).1 (hno k' s' hne).2⟩
 ·change i < (B.L ++ [x]).length at hi;change j < (B.L ++ [x]).length at hj;change ((B.L ++ [x]).getD i KBlk.no).live = true at li;change ((B.L ++ [x]).getD j KBlk.no).live = true at lj;change ((B.L ++ [x]).getD i KBlk.no).k = ((B.L ++ [x]).getD j KBlk.no).k at e1;change ((B.L ++ [x]).getD i KBlk.no).s = ((B.L ++ [x]).getD j KBlk.no).s at e2;rw [getD_appL] at li lj;rw [getD_appL, getD_appL] at e1 e2;have hxk : x.k = k ∧ x.s = s := by rw [hx]; exact ⟨rfl, rfl⟩
  by_cases ei : i = B.L.length
  ·by_cases ej : j = B.L.length
   ·omega
   ·exfalso;rw [if_pos ei, if_neg ej] at e1 e2;rw [if_neg ej] at lj;obtain ⟨k', s', hl⟩ := h.live j (by omega) lj;have a1 := hl.ek;have a2 := hl.es;rw [← e1, hxk.1] at a1;rw [← e2, hxk.2] at a2;exact h3 (by rw [show k = k' by omega, show s = s' by omega]; exact hl.st)
  ·by_cases ej : j = B.L.length
   ·exfalso;rw [if_neg ei, if_pos ej] at e1 e2;rw [if_neg ei] at li;obtain ⟨k', s', hl⟩ := h.live i (by omega) li;have a1 := hl.ek;have a2 := hl.es;rw [e1, hxk.1] at a1;rw [e2, hxk.2] at a2;exact h3 (by rw [show k = k' by omega, show s = s' by omega]; exact hl.st)
   ·rw [if_neg ei] at li;rw [if_neg ej] at lj;rw [if_neg ei, if_neg ej] at e1 e2;exact h.uniq i j (by omega) (by omega) li lj e1 e2
 ·show kliveN (B.L ++ [x]) k' (B.L ++ [x]).length = cntTo (fun s => decide (Ref.state (R.log ++ [e]) k' s = 3)) (Cf.sl R.cls k').toNat;rw [kliveN_app, h.cnt k' hk'];have hxk : x.live = true ∧ x.k = k := by rw [hx]; exact ⟨rfl, rfl⟩
  by_cases ek : k' = k
  ·subst ek;rw [show kind x k' = 1 from if_pos hxk];refine (cntTo_on _ _ _ s hs (fun s' _ hne => ?_) (decide_eq_true (state_gives _ _ _ _ hgv)) (decide_eq_false h3)).symm;exact decide_eq_decide.2 (by rw [state_other _ _ _ _ (hno k' s' (fun x => hne x.2)).1 (hno k' s' (fun x => hne x.2)).2])
  ·rw [show kind x k' = 0 from if_neg (fun y => ek (by have := y.2; rw [hxk.2] at this; omega)), Nat.add_zero];exact cntTo_congr _ _ _ fun s' _ => decide_eq_decide.2 (by rw [state_other _ _ _ _ (hno k' s' (fun x => ek x.1)).1 (hno k' s' (fun x => ek x.1)).2])
theorem KOk.left (h : KOk B G R) (i : Nat) (hi : i < B.L.length) (hl : (B.L.getD i KBlk.no).live = true) (site : Int) (hsn : site = B.now) : KOk (kleft B i) (fG G R (B.L.getD i KBlk.no).p site) (fR R (B.L.getD i KBlk.no).p site) := by
 obtain ⟨k, s, hli⟩ := h.live i hi hl;have hb := hli.block h.simb;have hbd := hli.bd h.simb;have hp := hli.p;have hq : (B.L.getD i KBlk.no).p ≠ 0 := by omega
 have hsb := h.simb.free_any (B.L.getD i KBlk.no).p site
 have hfr : fR R (B.L.getD i KBlk.no).p site = ⟨R.st, R.rest, R.cls, R.log ++ [⟨true, k, s, 0, 0, site⟩], R.marks⟩ := by
  unfold fR; rw [hb, if_pos ⟨hq, rfl⟩]
 rw [hfr] at hsb ⊢;have hv := h.simb.sim.rok.conf;obtain ⟨e, he⟩ : ∃ e : Ref.Ev, e = ⟨true, k, s, 0, 0, site⟩ := ⟨_, rfl⟩
 have hno : ∀ k' s' : Nat, ¬ (k' = k ∧ s' = s) → e.gives k' s' = false ∧ e.takes k' s' = false := fun k' s' hne => by
  constructor
  ·rw [he]; exact gives_no _ _ _ _ _ _ _
  ·cases eg : e.takes k' s'
   ·rfl
   ·rw [he] at eg; exact absurd ((takes_eq _ _ _ _ _ _ _).1 eg) hne
 have hrs := h.rests.takes hv.re0 k s site hli.hs hli.st;have hkl : (kleft B i).L = B.L.set i ((B.L.getD i KBlk.no).off B.now) := rfl;have hget : ∀ j, ((kleft B i).L.getD j KBlk.no) = if j = i then (B.L.getD i KBlk.no).off B.now else B.L.getD j KBlk.no := fun j => by rw [hkl, getD_setL _ _ _ _ hi]
 have hlen : (kleft B i).L.length = B.L.length := by rw [hkl, List.length_set]
 have hlv : ∀ j, ((kleft B i).L.getD j KBlk.no).live = true → j ≠ i ∧ (kleft B i).L.getD j KBlk.no = B.L.getD j KBlk.no := fun j hj => by
  rw [hget] at hj ⊢
  by_cases ej : j = i
  ·rw [if_pos ej] at hj; cases hj
  ·rw [if_neg ej]; exact ⟨ej, rfl⟩
 rw [← he] at hsb hrs ⊢;have heg : ∀ k' s' : Int, e.gives k' s' = false := fun k' s' => by rw [he]; simp [Ref.Ev.gives]
 have htk : e.takes k s = true := by rw [he]; exact (takes_eq _ _ _ _ _ _ _).2 ⟨rfl, rfl⟩
 have hks : ∀ j, ((kleft B i).L.getD j KBlk.no).k = (B.L.getD j KBlk.no).k ∧ ((kleft B i).L.getD j KBlk.no).s = (B.L.getD j KBlk.no).s := fun j => by
  rw [hget]
  by_cases ej : j = i
  ·rw [if_pos ej, ej]; exact ⟨rfl, rfl⟩
  ·rw [if_neg ej]; exact ⟨rfl, rfl⟩
 have hkl2 : ∀ j, klater (kleft B i).L j = klater B.L j := fun j => by
  unfold klater;rw [hlen];exact klaterTo_congr _ _ _ _ (fun m _ => hks m)
 have hhad : ∀ j, j < (kleft B i).L.length → ∃ (k s : Nat) (t : Int), KHad ⟨R.st, R.rest, R.cls, R.log ++ [e], R.marks⟩ ((kleft B i).L.getD j KBlk.no) (klater (kleft B i).L j) k s t := fun j hj => by
  rw [hlen] at hj;rw [hkl2, hget];obtain ⟨k', s', t, hh⟩ := h.had j hj
  by_cases ej : j = i
  ·subst ej;rw [if_pos rfl];have e1 := hh.ek;have e2 := hh.es;rw [hli.ek] at e1;rw [hli.es] at e2;obtain rfl : k = k' := by omega
   obtain rfl : s = s' := by omega
   have hgo : Ref.gone (R.log ++ [e]) k s = (R.log.length : Int) := by
    rw [Ref.gone_snoc _ _ _ _ (heg _ _), htk]
    rcases state_of R.log k s with y | y | y
    ·have := hli.st; omega
    ·rw [if_neg (by omega), if_pos rfl]
    ·have := hli.st; omega
   refine ⟨k, s, t, hh.ek, hh.es, hh.hk, hh.hs, ?_, hh.t0, hh.t1, hh.p, fun hn => ?_, fun hn _ => ?_, fun hn => ?_, fun hlv2 => by cases hlv2⟩
   ·show 0 ≤ Ref.given (R.log ++ [e]) k s;rw [given_other _ _ _ _ (heg _ _)]; exact hh.gv
   ·show t = Ref.last (R.log ++ [e]) k s ∧ ((R.log ++ [e]).getD (Ref.given (R.log ++ [e]) k s).toNat Ref.Ev.no).site = _;rw [last_other _ _ _ _ (heg _ _), size_other _ _ _ _ (heg _ _) hh.gv]; exact hh.cur hn
   ·show Ref.state (R.log ++ [e]) k s = 4 ∧ ((R.log ++ [e]).getD (Ref.gone (R.log ++ [e]) k s).toNat Ref.Ev.no).site = B.now;refine ⟨state_takes _ _ _ _ (heg _ _) htk hli.st, ?_⟩;rw [hgo, Int.toNat_natCast, Ref.getD_new, he]; exact hsn
   ·show t ≠ Ref.last (R.log ++ [e]) k s;rw [last_other _ _ _ _ (heg _ _)]; exact hh.old hn
  ·rw [if_neg ej]
   by_cases c : k' = k ∧ s' = s
   ·obtain ⟨rfl, rfl⟩ := c;refine ⟨k', s', t, hh.ek, hh.es, hh.hk, hh.hs, ?_, hh.t0, hh.t1, hh.p, fun hn => ?_, fun hn _ => ?_, fun hn => ?_, hh.lv⟩
    ·show 0 ≤ Ref.given (R.log ++ [e]) k' s';rw [given_other _ _ _ _ (heg _ _)]; exact hh.gv
    ·show t = Ref.last (R.log ++ [e]) k' s' ∧ ((R.log ++ [e]).getD (Ref.given (R.log ++ [e]) k' s').toNat Ref.Ev.no).site = _;rw [last_other _ _ _ _ (heg _ _), size_other _ _ _ _ (heg _ _) hh.gv]; exact hh.cur hn
    ·exfalso;obtain ⟨k2, s2, t2, hh2⟩ := h.had i hi;exact ej (klater_uniq B.L j i hj hi (by rw [hh.ek, hli.ek]) (by rw [hh.es, hli.es]) hn (hh2.lv hl).1)
    ·show t ≠ Ref.last (R.log ++ [e]) k' s';rw [last_other _ _ _ _ (heg _ _)]; exact hh.old hn
   ·exact ⟨k', s', t, hh.other e (hno k' s' c).1 (hno k' s' c).2⟩
 have hnb : ∀ k' s' : Nat, 0 ≤ Ref.given (R.log ++ [e]) k' s' → 0 ≤ Ref.given (R.log ++ [e]) k' ((s' : Int) + 1) → Ref.last (R.log ++ [e]) k' s' ≠ Ref.last (R.log ++ [e]) k' ((s' : Int) + 1) := fun k' s' g1 g2 => by
  rw [given_other _ _ _ _ (heg _ _)] at g1 g2;rw [last_other _ _ _ _ (heg _ _), last_other _ _ _ _ (heg _ _)];exact h.nb k' s' g1 g2
 refine ⟨hsb, h.st, h.rest, h.cls, ?_, fun j hj hx => ?_, fun a b ha hb2 la lb e1 e2 => ?_, fun k' hk' => ?_, hhad, hnb⟩
 ·show RestOk _ (B.F ++ [((B.L.getD i KBlk.no).k, (B.L.getD i KBlk.no).s)]);rw [hli.ek, hli.es]; exact hrs
 ·obtain ⟨hne, heq⟩ := hlv j hx;rw [heq] at hx ⊢;rw [hlen] at hj;obtain ⟨k', s', hl2⟩ := h.live j hj hx;have hne2 : ¬ (k' = k ∧ s' = s) := fun y => hne (h.uniq j i hj hi hx hl (by rw [hl2.ek, hli.ek, y.1]) (by rw [hl2.es, hli.es, y.2]))
  exact ⟨k', s', hl2.other hv h.simb.fits e (hno k' s' hne2).1 (hno k' s' hne2).2⟩
 ·have ha2 := (hlv a la).2;have hb3 := (hlv b lb).2;rw [ha2] at la e1 e2;rw [hb3] at lb e1 e2;rw [hlen] at ha hb2;exact h.uniq a b ha hb2 la lb e1 e2
 ·show kliveN (B.L.set i ((B.L.getD i KBlk.no).off B.now)) k' (B.L.set i ((B.L.getD i KBlk.no).off B.now)).length = cntTo (fun s => decide (Ref.state (R.log ++ [e]) k' s = 3)) (Cf.sl R.cls k').toNat;rw [List.length_set];have hset := kliveN_set B.L i ((B.L.getD i KBlk.no).off B.now) k' hi B.L.length hi;rw [show kind ((B.L.getD i KBlk.no).off B.now) k' = 0 from if_neg (fun y => by cases y.1)] at hset;have hc := h.cnt k' hk';have h4 : Ref.state (R.log ++ [e]) k s = 4 := state_takes _ _ _ _ (by rw [he]; exact gives_no _ _ _ _ _ _ _) (by rw [he]; exact (takes_eq _ _ _ _ _ _ _).2 ⟨rfl, rfl⟩) hli.st
  by_cases ek : k' = k
  ·subst ek;rw [show kind (B.L.getD i KBlk.no) k' = 1 from if_pos ⟨hl, hli.ek⟩] at hset;have hon := cntTo_on (fun s' => decide (Ref.state R.log k' s' = 3)) (fun s' => decide (Ref.state (R.log ++ [e]) k' s' = 3)) (Cf.sl R.cls k').toNat s hli.hs (fun s' _ hne => decide_eq_decide.2 (by rw [state_other _ _ _ _ (hno k' s' (fun x => hne x.2)).1 (hno k' s' (fun x => hne x.2)).2])) (decide_eq_true hli.st) (decide_eq_false (by omega));omega
  ·rw [show kind (B.L.getD i KBlk.no) k' = 0 from if_neg (fun y => ek (by have := y.2; rw [hli.ek] at this; omega))] at hset;rw [cntTo_congr _ (fun s' => decide (Ref.state R.log k' s' = 3)) _ (fun s' _ => decide_eq_decide.2 (by rw [state_other _ _ _ _ (hno k' s' (fun x => ek x.1)).1 (hno k' s' (fun x => ek x.1)).2]))];omega
end
end Go.Proofs.YtjikemhmnkckcabGreat
