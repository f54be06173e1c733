import Derived.Test.YtjikemhmnkckcabGreatJ25
namespace Go.Proofs.YtjikemhmnkckcabGreat
open Go.RowKit
def RestIs (R : RSt) (F : List (Int × Int)) : Prop := ∀ (k s : Nat) (n : Int), 0 ≤ n → n < R.r k s → krestTo F R.rest k s F.length n = true
theorem RestIs.start (st rest : Int) (cls : List (Int × Int)) : RestIs ⟨st, rest, cls, [], []⟩ [] := by
 intro k s n hn hx;rw [r_live (show Ref.state [] (k : Int) (s : Int) ≠ 4 by show (2 : Int) ≠ 4; decide)] at hx;omega
theorem RestIs.gives {R : RSt} {F : List (Int × Int)} (h : RestIs R F) (k0 s0 : Nat) (t z site : Int) (hr0 : R.r k0 s0 = 0) : RestIs ⟨R.st, R.rest, R.cls, R.log ++ [⟨false, k0, s0, t, z, site⟩], R.marks⟩ F := by
 intro k s n hn hx;refine h k s n hn ?_
 by_cases e : k = k0 ∧ s = s0
 ·obtain ⟨rfl, rfl⟩ := e
  rw [r_live (by
   show Ref.state (R.log ++ [_]) k s ≠ 4;rw [state_gives _ _ _ _ ((gives_eq _ _ _ _ _ _ _).2 ⟨rfl, rfl⟩)]; decide)] at hx
  omega
 ·rw [r_gives R _ k s (by
   cases eg : (⟨false, (k0 : Int), (s0 : Int), t, z, site⟩ : Ref.Ev).gives k s
   ·rfl
   ·exact absurd ((gives_eq _ _ _ _ _ _ _).1 eg) e) rfl] at hx
  exact hx
theorem RestIs.takes {R : RSt} {F : List (Int × Int)} (h : RestIs R F) (hr : 0 ≤ R.rest) (k0 s0 : Nat) (site : Int) (h3 : Ref.state R.log k0 s0 = 3) : RestIs ⟨R.st, R.rest, R.cls, R.log ++ [⟨true, k0, s0, 0, 0, site⟩], R.marks⟩ (F ++ [((k0 : Int), (s0 : Int))]) := by
 have key0 := r_taken R k0 s0 site h3 hr;intro k s n hn hx;rw [krestTo_snoc];show (if n < R.rest then _ else _) = true
 by_cases e : k = k0 ∧ s = s0
 ·obtain ⟨rfl, rfl⟩ := e;rw [key0] at hx;rw [if_pos hx, if_pos rfl, if_pos rfl]
 ·rw [r_takes R _ k s (gives_no _ _ _ _ _ _ _) (by
   cases et : (⟨true, (k0 : Int), (s0 : Int), 0, 0, site⟩ : Ref.Ev).takes k s
   ·rfl
   ·exact absurd ((takes_eq _ _ _ _ _ _ _).1 et) e), frees_eq] at hx
  have hb := r_bd hr k s
  by_cases ek : k = k0
  ·subst ek;rw [if_pos (by simp)] at hx;rw [if_pos (by omega), if_pos rfl, if_neg (show ¬ (((k : Int), (s0 : Int)).2 = (s : Int)) from fun x => e ⟨rfl, by simp at x; omega⟩)];exact h k s (n + 1) (by omega) (by omega)
  ·rw [if_neg (by simp [ek])] at hx;rw [if_pos (by omega), if_neg (show ¬ (((k0 : Int), (s0 : Int)).1 = (k : Int)) from fun x => ek (by simp at x; omega))];exact h k s n hn hx
theorem krests_is {R : RSt} {F : List (Int × Int)} (h : RestIs R F) (g : RestOk R F) (hl : LogOk R) (k s : Nat) (h3 : Ref.state R.log k s ≠ 3) : krests F R.rest k s = Ref.rests R.log R.rest k s := by
 rw [rests_r hl k s h3];unfold krests
 by_cases c : 0 < R.r k s
 ·rw [h k s 0 (by omega) c, decide_eq_true c]
 ·rw [decide_eq_false c]
  cases e : krestTo F R.rest k s F.length 0
  ·rfl
  ·exact absurd (g.look k s 0 (by omega) h3 e) c
theorem and_i64 (v : Int) : bits .and .i64 v 255 = v % 256 := by
 show IntKind.i64.wrap (((BitVec.ofInt 64 v &&& BitVec.ofInt 64 255).toNat : Nat) : Int) = _;rw [BitVec.toNat_and, BitVec.toNat_ofInt, BitVec.toNat_ofInt, show ((255 : Int) % ((2 ^ 64 : Nat) : Int)).toNat = 2 ^ 8 - 1 by decide, Nat.and_two_pow_sub_one_eq_mod, IntKind.wrap_i64];omega
theorem KLive.apart {R : RSt} {x y : KBlk} {k s k' s' : Nat} (hv : Cf.Valid R.st R.rest R.cls) (hf : Fits R) (h : KLive R x k s) (g : KLive R y k' s') (hne : ¬ (k = k' ∧ s = s')) (i j : Nat) (hi : i < x.want.length) (hj : j < y.want.length) : Cf.begin_ R.st R.cls k s + (i : Int) ≠ Cf.begin_ R.st R.cls k' s' + (j : Int) := by
 intro e;apply hne;have z1 := (hf.size k s (live_given h.st)).2;have z2 := (hf.size k' s' (live_given g.st)).2;have l1 := h.len;have l2 := g.len;have e1 := slot_at hv k s h.hk h.hs (Cf.begin_ R.st R.cls k s + i) (by omega) (by omega);have e2 := slot_at hv k' s' g.hk g.hs (Cf.begin_ R.st R.cls k' s' + j) (by omega) (by omega);rw [e, e2] at e1;have x1 := congrArg Prod.fst e1;have x2 := congrArg Prod.snd e1;simp at x1 x2;omega
section
variable {B : KSt} {G : GSt} {R : RSt}
theorem KOk.bytes (h : KOk B G R) (i : Nat) (hi : i < B.L.length) (hl : (B.L.getD i KBlk.no).live = true) {G' : GSt} {R' : RSt} (hs : SimB G' R') (h1 : R'.st = R.st) (h2 : R'.rest = R.rest) (h3 : R'.cls = R.cls) (h4 : R'.log = R.log)
 (want : List Int) (hw : want.length = (B.L.getD i KBlk.no).want.length)
 (hin : ∀ k s : Nat, KLive R (B.L.getD i KBlk.no) k s → ∀ t : Nat, t < want.length → want.getD t 0 = R'.byte (Cf.begin_ R.st R.cls k s + t))
 (hout : ∀ (k s : Nat) (a : Int), KLive R (B.L.getD i KBlk.no) k s → (∀ t : Nat, t < want.length → a ≠ Cf.begin_ R.st R.cls k s + t) → R'.byte a = R.byte a) :
 KOk ⟨B.st, B.rest, B.cls, B.L.set i ((B.L.getD i KBlk.no).withWant want), B.F, B.now⟩ G' R' := by
 have hv := h.simb.sim.rok.conf;obtain ⟨k, s, hli⟩ := h.live i hi hl;have hget : ∀ j, ((B.L.set i ((B.L.getD i KBlk.no).withWant want)).getD j KBlk.no) = if j = i then (B.L.getD i KBlk.no).withWant want else B.L.getD j KBlk.no := fun j => getD_setL _ _ _ _ hi
 have hgk : ∀ j, ((B.L.set i ((B.L.getD i KBlk.no).withWant want)).getD j KBlk.no).live = (B.L.getD j KBlk.no).live ∧ ((B.L.set i ((B.L.getD i KBlk.no).withWant want)).getD j KBlk.no).k = (B.L.getD j KBlk.no).k ∧ ((B.L.set i ((B.L.getD i KBlk.no).withWant want)).getD j KBlk.no).s = (B.L.getD j KBlk.no).s := fun j => by
  rw [hget]
  by_cases e : j = i
  ·rw [if_pos e, e]; exact ⟨rfl, rfl, rfl⟩
  ·rw [if_neg e]; exact ⟨rfl, rfl, rfl⟩
 have hll : (B.L.set i ((B.L.getD i KBlk.no).withWant want)).length = B.L.length := List.length_set;refine ⟨hs, h.st.trans h1.symm, h.rest.trans h2.symm, h.cls.trans h3.symm, ?_, fun j hj hx => ?_, fun a b ha hb la lb e1 e2 => ?_, fun k' hk' => ?_, fun j hj => ?_, by rw [h4]; exact h.nb⟩
 ·refine ⟨fun k hk v hv2 => ?_, fun k s n hn hst hx => ?_⟩
  ·have e : ∀ s, R'.r k s = R.r k s := fun s => by unfold RSt.r; rw [h2, h4]
   rw [h3] at hk;rw [h2, h3, cntTo_congr _ (fun s => decide (R.r k s = v)) _ (fun s _ => by rw [e])];exact h.rests.cnt k hk v hv2
  ·have e : R'.r k s = R.r k s := by unfold RSt.r; rw [h2, h4]
   rw [h4] at hst;rw [h2] at hx;rw [e]; exact h.rests.look k s n hn hst hx
 ·change j < (B.L.set i _).length at hj;rw [hll] at hj;change ((B.L.set i ((B.L.getD i KBlk.no).withWant want)).getD j KBlk.no).live = true at hx;show ∃ k s : Nat, KLive R' ((B.L.set i ((B.L.getD i KBlk.no).withWant want)).getD j KBlk.no) k s;rw [(hgk j).1] at hx;rw [hget]
  by_cases e : j = i
  ·rw [if_pos e];exact ⟨k, s, hli.marks h1 h3 h4 want hw (fun t ht => hin k s hli t ht)⟩
  ·rw [if_neg e];obtain ⟨k', s', hlj⟩ := h.live j hj hx;have hne : ¬ (k' = k ∧ s' = s) := fun y => e (h.uniq j i hj hi hx hl (by rw [hlj.ek, hli.ek, y.1]) (by rw [hlj.es, hli.es, y.2]))
   refine ⟨k', s', ?_⟩
   have := hlj.marks h1 h3 h4 (B.L.getD j KBlk.no).want rfl (fun t ht => by
    rw [hlj.byte t ht];exact (hout k s _ hli (fun t' ht' => KLive.apart hv h.simb.fits hlj hli hne t t' ht (by rw [← hw]; exact ht'))).symm)
   exact this
 ·change a < (B.L.set i _).length at ha;change b < (B.L.set i _).length at hb;rw [hll] at ha hb;change ((B.L.set i ((B.L.getD i KBlk.no).withWant want)).getD a KBlk.no).live = true at la;change ((B.L.set i ((B.L.getD i KBlk.no).withWant want)).getD b KBlk.no).live = true at lb;change ((B.L.set i ((B.L.getD i KBlk.no).withWant want)).getD a KBlk.no).k = ((B.L.set i ((B.L.getD i KBlk.no).withWant want)).getD b KBlk.no).k at e1;change ((B.L.set i ((B.L.getD i KBlk.no).withWant want)).getD a KBlk.no).s = ((B.L.set i ((B.L.getD i KBlk.no).withWant want)).getD b KBlk.no).s at e2;rw [(hgk a).1] at la;rw [(hgk b).1] at lb;rw [(hgk a).2.1, (hgk b).2.1] at e1;rw [(hgk a).2.2, (hgk b).2.2] at e2;exact h.uniq a b ha hb la lb e1 e2
 ·show kliveN (B.L.set i _) k' (B.L.set i _).length = _;rw [hll, h3, h4, kliveN_congr _ B.L k' B.L.length (fun j _ => by unfold kind; rw [(hgk j).1, (hgk j).2.1])];rw [h3] at hk';exact h.cnt k' hk'
 ·change j < (B.L.set i _).length at hj;rw [hll] at hj;show ∃ (k s : Nat) (t : Int), KHad R' ((B.L.set i ((B.L.getD i KBlk.no).withWant want)).getD j KBlk.no) (klater (B.L.set i ((B.L.getD i KBlk.no).withWant want)) j) k s t
  have hkl2 : klater (B.L.set i ((B.L.getD i KBlk.no).withWant want)) j = klater B.L j := by
   unfold klater;rw [hll];exact klaterTo_congr _ _ _ _ (fun m _ => (hgk m).2)
  rw [hkl2, hget];obtain ⟨k', s', t, hh⟩ := h.had j hj
  by_cases ej : j = i
  ·subst ej;rw [if_pos rfl];exact ⟨k', s', t, hh.ek, hh.es, by rw [h3]; exact hh.hk, by rw [h3]; exact hh.hs, by rw [h4]; exact hh.gv, hh.t0, hh.t1, by rw [h1, h3]; exact hh.p, by rw [h4]; exact hh.cur, by rw [h4]; exact hh.dead, by rw [h4]; exact hh.old, hh.lv⟩
  ·rw [if_neg ej];exact ⟨k', s', t, hh.ek, hh.es, by rw [h3]; exact hh.hk, by rw [h3]; exact hh.hs, by rw [h4]; exact hh.gv, hh.t0, hh.t1, by rw [h1, h3]; exact hh.p, by rw [h4]; exact hh.cur, by rw [h4]; exact hh.dead, by rw [h4]; exact hh.old, hh.lv⟩
end
def kcopied (new old : List Int) : List Int := old.take (min old.length new.length) ++ new.drop (min old.length new.length)
theorem kcopied_len (new old : List Int) : (kcopied new old).length = new.length := by unfold kcopied; simp; omega
theorem kcopied_getD (new old : List Int) (t : Nat) : (kcopied new old).getD t 0 = if t < min old.length new.length then old.getD t 0 else new.getD t 0 := by
 unfold kcopied;have l1 : (old.take (min old.length new.length)).length = min old.length new.length := by rw [List.length_take]; omega
 simp only [List.getD_eq_getElem?_getD]
 by_cases h : t < min old.length new.length
 ·rw [List.getElem?_append_left (by omega), List.getElem?_take, if_pos h, if_pos h]
 ·rw [List.getElem?_append_right (by omega), l1, List.getElem?_drop, if_neg h, show min old.length new.length + (t - min old.length new.length) = t by omega]
def kgrown (B : KSt) (i : Nat) (x : KBlk) : KSt :=
 kleft ⟨B.st, B.rest, B.cls, (B.L ++ [x]).set B.L.length (x.withWant (kcopied x.want (B.L.getD i KBlk.no).want)), B.F, B.now⟩ i
section
variable {B : KSt} {G : GSt} {R : RSt}
theorem KOk.realloc (h : KOk B G R) (i : Nat) (hi : i < B.L.length) (hl : (B.L.getD i KBlk.no).live = true) (size draw site now : Int) (hsn : site = now) (hnw : site = B.now) (wb : Nat) (k' s' : Nat) (h1 : 1 ≤ size) (hk : Ref.cls_ R.cls size = k') (hkl : k' < R.cls.length) (hf : Ref.first R.log R.rest R.cls k' = (s' : Int)) (hs : s' < (Cf.sl R.cls k').toNat) (hz : size ≤ 16 * Cf.gr R.cls k')
 (hm : mOut R size draw = ((Ref.tagOf R.log k' s' draw : Int) * 72057594037927936 + Cf.begin_ R.st R.cls k' s', 0)) :
 R.reOut (B.L.getD i KBlk.no).p size draw = mOut R size draw ∧
 KOk (kgrown B i ⟨(Ref.tagOf R.log k' s' draw : Int) * 72057594037927936 + Cf.begin_ R.st R.cls k' s', k', s', List.replicate (16 * Ref.gsz size).toNat 0, wb, true, now, 0⟩) (reG G R (B.L.getD i KBlk.no).p size draw site) (R.re (B.L.getD i KBlk.no).p size draw site) := by
 obtain ⟨k, s, hli⟩ := h.live i hi hl;have hb := hli.block h.simb;have hbd := hli.bd h.simb;have hpp := hli.p;have hq : (B.L.getD i KBlk.no).p ≠ 0 := by omega
 have hbad : ¬ R.reBad (B.L.getD i KBlk.no).p := fun y => y.2 (by rw [hb])
 have hm0 : ¬ ((mOut R size draw).2 ≠ 0 ∨ (B.L.getD i KBlk.no).p = 0) := by
  rintro (y | y)
  ·exact y (by rw [hm])
  ·exact hq y
 refine ⟨if_neg hbad, ?_⟩
 rcases re_cases h.simb (B.L.getD i KBlk.no).p size draw site with y | y | ⟨k1, s1, k2, s2, tg, hr⟩
 ·exact absurd (by rw [hb]) y
 ·exact absurd (by rw [hm]) y
 have hk1 : k1 = k ∧ s1 = s := by
  have e := hr.old;rw [hb] at e;have e1 := congrArg Prod.fst e;have e2 := congrArg (fun y => y.2.1) e;simp at e1 e2;omega
 obtain ⟨rfl, rfl⟩ := hk1;have hM := h.malloc size draw site now hsn wb k' s' h1 hk hkl hf hs hz hm;have hR := mR_ok (draw := draw) (site := site) hk hf (by rw [hm])
 have hre : R.re (B.L.getD i KBlk.no).p size draw site = fR ((mR R size draw site).copies ((mOut R size draw).1 % 72057594037927936) ((B.L.getD i KBlk.no).p % 72057594037927936) (R.reN (B.L.getD i KBlk.no).p size draw site)) (B.L.getD i KBlk.no).p site := by
  unfold RSt.re; rw [if_neg hbad, if_neg hm0]
 have hrg : reG G R (B.L.getD i KBlk.no).p size draw site = fG ⟨(mG G R size draw site).st, (mG G R size draw site).rest, (mG G R size draw site).cs, copyTo (mG G R size draw site).mem ((mOut R size draw).1 % 72057594037927936).toNat ((B.L.getD i KBlk.no).p % 72057594037927936).toNat (R.reN (B.L.getD i KBlk.no).p size draw site)⟩
  ((mR R size draw site).copies ((mOut R size draw).1 % 72057594037927936) ((B.L.getD i KBlk.no).p % 72057594037927936) (R.reN (B.L.getD i KBlk.no).p size draw site)) (B.L.getD i KBlk.no).p site := by
  unfold reG; rw [if_neg hbad, if_neg hm0]
 obtain ⟨x, hx⟩ : ∃ x : KBlk, x = ⟨(Ref.tagOf R.log k' s' draw : Int) * 72057594037927936 + Cf.begin_ R.st R.cls k' s', k', s', List.replicate (16 * Ref.gsz size).toNat 0, wb, true, now, 0⟩ := ⟨_, rfl⟩
 rw [← hx] at hM;rw [← hx, hre, hrg];have hsc := hr.copy h.simb;obtain ⟨z, z0, z1, hby, hn⟩ := hr.n h.simb;have hfit := gsz_fit h1 hz;have hbn := Cf.begin_bd h.simb.sim.rok.conf k' hkl s' (by omega) (by have := h.simb.sim.rok.conf.s1 k' hkl; omega);have t0 := PickMath.pick_lo (Ref.last R.log k' s') (Ref.last R.log k' ((s' : Int) - 1)) (Ref.last R.log k' ((s' : Int) + 1)) draw;have t1 := PickMath.pick_hi (Ref.last R.log k' s') (Ref.last R.log k' ((s' : Int) - 1)) (Ref.last R.log k' ((s' : Int) + 1)) draw;change 1 ≤ Ref.tagOf R.log k' s' draw at t0;change Ref.tagOf R.log k' s' draw ≤ 14 at t1
 have ha : (mOut R size draw).1 % 72057594037927936 = Cf.begin_ R.st R.cls k' s' := by
  rw [hm];show ((Ref.tagOf R.log k' s' draw : Int) * 72057594037927936 + _) % _ = _;omega
 have hbb : (B.L.getD i KBlk.no).p % 72057594037927936 = Cf.begin_ R.st R.cls k1 s1 := (hr.oldAt h.simb).2.1.symm
 have hwl : ((B.L.getD i KBlk.no).want.length : Int) = 16 * z := by
  have e1 := h.simb.malloc size draw site;have e2 := hM.live i (by show i < (B.L ++ [x]).length; simp; omega) (by show ((B.L ++ [x]).getD i KBlk.no).live = true; rw [getD_appL, if_neg (by omega)]; exact hl);obtain ⟨k3, s3, hl3⟩ := e2;change KLive _ ((B.L ++ [x]).getD i KBlk.no) k3 s3 at hl3;rw [getD_appL, if_neg (by omega)] at hl3;have e3 := hl3.ek;have e4 := hl3.es;rw [hli.ek] at e3;rw [hli.es] at e4;obtain rfl : k1 = k3 := by omega
  obtain rfl : s1 = s3 := by omega
  rw [hl3.len, ← hby];exact (e1.sim.slotBytes k1 s1 hl3.hk hl3.hs (live_given hl3.st)).symm
 have hxl : (x.want.length : Int) = 16 * Ref.gsz size := by
  rw [hx];show ((List.replicate (16 * Ref.gsz size).toNat (0 : Int)).length : Int) = _;rw [List.length_replicate]; omega
 have hN : R.reN (B.L.getD i KBlk.no).p size draw site = min (B.L.getD i KBlk.no).want.length x.want.length := by omega
 have hcs := (mR R size draw site).copies_same ((mOut R size draw).1 % 72057594037927936) ((B.L.getD i KBlk.no).p % 72057594037927936) (R.reN (B.L.getD i KBlk.no).p size draw site);have hlast : (B.L ++ [x]).getD B.L.length KBlk.no = x := by rw [getD_appL, if_pos rfl]
 have hxlive : x.live = true := by rw [hx]
 have hM1 : KOk ⟨B.st, B.rest, B.cls, (B.L ++ [x]).set B.L.length (x.withWant (kcopied x.want (B.L.getD i KBlk.no).want)), B.F, B.now⟩
  ⟨(mG G R size draw site).st, (mG G R size draw site).rest, (mG G R size draw site).cs, copyTo (mG G R size draw site).mem ((mOut R size draw).1 % 72057594037927936).toNat ((B.L.getD i KBlk.no).p % 72057594037927936).toNat (R.reN (B.L.getD i KBlk.no).p size draw site)⟩
  ((mR R size draw site).copies ((mOut R size draw).1 % 72057594037927936) ((B.L.getD i KBlk.no).p % 72057594037927936) (R.reN (B.L.getD i KBlk.no).p size draw site)) := by
  have hst : (mR R size draw site).st = R.st := by rw [hR]
  have hcl : (mR R size draw site).cls = R.cls := by rw [hR]
  obtain ⟨ka, sa, la⟩ := hM.live i (by show i < (B.L ++ [x]).length; simp; omega) (by show ((B.L ++ [x]).getD i KBlk.no).live = true; rw [getD_appL, if_neg (by omega)]; exact hl);change KLive _ ((B.L ++ [x]).getD i KBlk.no) ka sa at la;rw [getD_appL, if_neg (by omega)] at la;have ea := la.ek;have eb := la.es;rw [hli.ek] at ea;rw [hli.es] at eb;obtain rfl : k1 = ka := by omega
  obtain rfl : s1 = sa := by omega
  obtain ⟨kb, sb, lb⟩ := hM.live B.L.length (by show B.L.length < (B.L ++ [x]).length; simp) (by show ((B.L ++ [x]).getD B.L.length KBlk.no).live = true; rw [hlast]; exact hxlive);change KLive _ ((B.L ++ [x]).getD B.L.length KBlk.no) kb sb at lb;rw [hlast] at lb;have hxk : x.k = k' ∧ x.s = s' := by rw [hx]; exact ⟨rfl, rfl⟩
  have ec := lb.ek;have ed := lb.es;rw [hxk.1] at ec;rw [hxk.2] at ed;obtain rfl : k' = kb := by omega
  obtain rfl : s' = sb := by omega
  have hapart : ∀ (a b : Nat), a < (B.L.getD i KBlk.no).want.length → b < x.want.length → Cf.begin_ R.st R.cls k1 s1 + (a : Int) ≠ Cf.begin_ R.st R.cls k' s' + (b : Int) := fun a b h5 h6 => by
   have := KLive.apart (hM.simb.sim.rok.conf) hM.simb.fits la lb (fun y => by
    have h7 := hM.uniq i B.L.length (by show i < (B.L ++ [x]).length; simp; omega) (by show B.L.length < (B.L ++ [x]).length; simp) (by show ((B.L ++ [x]).getD i KBlk.no).live = true; rw [getD_appL, if_neg (by omega)]; exact hl) (by show ((B.L ++ [x]).getD B.L.length KBlk.no).live = true; rw [hlast]; exact hxlive)
     (by show ((B.L ++ [x]).getD i KBlk.no).k = ((B.L ++ [x]).getD B.L.length KBlk.no).k; rw [hlast, getD_appL, if_neg (by omega), hli.ek, hxk.1, y.1])
     (by show ((B.L ++ [x]).getD i KBlk.no).s = ((B.L ++ [x]).getD B.L.length KBlk.no).s; rw [hlast, getD_appL, if_neg (by omega), hli.es, hxk.2, y.2])
    omega) a b h5 h6
   rw [hst, hcl] at this;exact this
  have hdis : Cf.begin_ R.st R.cls k1 s1 + (min (B.L.getD i KBlk.no).want.length x.want.length : Nat) ≤ Cf.begin_ R.st R.cls k' s' ∨ Cf.begin_ R.st R.cls k' s' + (min (B.L.getD i KBlk.no).want.length x.want.length : Nat) ≤ Cf.begin_ R.st R.cls k1 s1 := by
   by_cases c1 : Cf.begin_ R.st R.cls k1 s1 + (min (B.L.getD i KBlk.no).want.length x.want.length : Nat) ≤ Cf.begin_ R.st R.cls k' s'
   ·exact .inl c1
   ·by_cases c2 : Cf.begin_ R.st R.cls k' s' + (min (B.L.getD i KBlk.no).want.length x.want.length : Nat) ≤ Cf.begin_ R.st R.cls k1 s1
    ·exact .inr c2
    ·exfalso;have := hapart (max (Cf.begin_ R.st R.cls k1 s1) (Cf.begin_ R.st R.cls k' s') - Cf.begin_ R.st R.cls k1 s1).toNat (max (Cf.begin_ R.st R.cls k1 s1) (Cf.begin_ R.st R.cls k' s') - Cf.begin_ R.st R.cls k' s').toNat (by omega) (by omega);omega
  have hcb := (mR R size draw site).copies_byte (Cf.begin_ R.st R.cls k' s') (Cf.begin_ R.st R.cls k1 s1) (min (B.L.getD i KBlk.no).want.length x.want.length) hdis;rw [ha, hbb, hN] at hsc hcs ⊢;have key := hM.bytes B.L.length (by show B.L.length < (B.L ++ [x]).length; simp) (by show ((B.L ++ [x]).getD B.L.length KBlk.no).live = true; rw [hlast]; exact hxlive) hsc hcs.1 hcs.2.1 hcs.2.2.1 hcs.2.2.2.1 (kcopied x.want (B.L.getD i KBlk.no).want) (by show _ = ((B.L ++ [x]).getD B.L.length KBlk.no).want.length; rw [hlast]; exact kcopied_len _ _) ?_ ?_
  ·change KOk ⟨B.st, B.rest, B.cls, (B.L ++ [x]).set B.L.length (((B.L ++ [x]).getD B.L.length KBlk.no).withWant (kcopied x.want (B.L.getD i KBlk.no).want)), B.F, B.now⟩ _ _ at key;rw [hlast] at key;exact key
  ·intro kc sc lc t ht;change KLive _ ((B.L ++ [x]).getD B.L.length KBlk.no) kc sc at lc;rw [hlast] at lc;have f1 := lc.ek;have f2 := lc.es;rw [hxk.1] at f1;rw [hxk.2] at f2;obtain rfl : k' = kc := by omega
   obtain rfl : s' = sc := by omega
   rw [kcopied_len] at ht;rw [hst, hcl, hcb, kcopied_getD]
   by_cases c : t < min (B.L.getD i KBlk.no).want.length x.want.length
   ·rw [if_pos c, if_pos (by omega), la.byte t (by omega), hst, hcl, show Cf.begin_ R.st R.cls k1 s1 + (Cf.begin_ R.st R.cls k' s' + (t : Int) - Cf.begin_ R.st R.cls k' s') = Cf.begin_ R.st R.cls k1 s1 + t by omega]
   ·rw [if_neg c, if_neg (by omega), lc.byte t ht, hst, hcl]
  ·intro kc sc a lc hno;change KLive _ ((B.L ++ [x]).getD B.L.length KBlk.no) kc sc at lc;rw [hlast] at lc;have f1 := lc.ek;have f2 := lc.es;rw [hxk.1] at f1;rw [hxk.2] at f2;obtain rfl : k' = kc := by omega
   obtain rfl : s' = sc := by omega
   rw [hst, hcl] at hno;rw [hcb, if_neg];intro y;refine hno (a - Cf.begin_ R.st R.cls k' s').toNat ?_ (by omega);rw [kcopied_len]; omega
 have hgi : ((B.L ++ [x]).set B.L.length (x.withWant (kcopied x.want (B.L.getD i KBlk.no).want))).getD i KBlk.no = B.L.getD i KBlk.no := by
  rw [getD_setL _ _ _ _ (by simp), if_neg (by omega), getD_appL, if_neg (by omega)]
 have hfin := hM1.left i (by show i < ((B.L ++ [x]).set _ _).length; rw [List.length_set]; simp; omega) (by show (((B.L ++ [x]).set _ _).getD i KBlk.no).live = true; rw [hgi]; exact hl) site hnw;change KOk (kleft _ i) (fG _ _ (((B.L ++ [x]).set B.L.length (x.withWant (kcopied x.want (B.L.getD i KBlk.no).want))).getD i KBlk.no).p site) (fR _ (((B.L ++ [x]).set B.L.length (x.withWant (kcopied x.want (B.L.getD i KBlk.no).want))).getD i KBlk.no).p site) at hfin;rw [hgi] at hfin;exact hfin
end
section
variable {B : KSt} {G : GSt} {R : RSt} {x : KBlk} {n k s : Nat} {t : Int}
theorem KHad.bd (h : KHad R x n k s t) (hs : SimB G R) : 32 ≤ Cf.begin_ R.st R.cls k s ∧ Cf.begin_ R.st R.cls k s ≤ 8640 ∧ 1 ≤ Cf.gr R.cls k ∧ Cf.gr R.cls k ≤ 8 ∧ (s : Int) < Cf.sl R.cls k := by
 have hv := hs.sim.rok.conf;have h1 := h.hs;have h2 := Cf.begin_bd hv k h.hk s (by omega) (by have := hv.s1 k h.hk; omega);have h3 := hv.g0 k h.hk;have h4 := hv.g1 k h.hk;omega
end
def LiveIs (R : RSt) (L : List KBlk) : Prop := ∀ k s : Nat, Ref.state R.log k s = 3 → ∃ i, i < L.length ∧ (L.getD i KBlk.no).live = true ∧ (L.getD i KBlk.no).k = k ∧ (L.getD i KBlk.no).s = s
structure KAll (B : KSt) (G : GSt) (R : RSt) : Prop where
 ok : KOk B G R
 rs : RestIs R B.F
 lv : LiveIs R B.L
theorem LiveIs.start (st rest : Int) (cls : List (Int × Int)) : LiveIs ⟨st, rest, cls, [], []⟩ [] := by
 intro k s h;exact absurd h (by show (2 : Int) ≠ 3; decide)
theorem RestIs.log {R R' : RSt} {F : List (Int × Int)} (h : RestIs R F) (h2 : R'.rest = R.rest) (h4 : R'.log = R.log) : RestIs R' F := by
 intro k s n hn hx;rw [h2];refine h k s n hn ?_;unfold RSt.r at hx ⊢;rw [h2, h4] at hx;exact hx
theorem LiveIs.log {R R' : RSt} {L : List KBlk} (h : LiveIs R L) (h4 : R'.log = R.log) : LiveIs R' L := by
 intro k s hx;rw [h4] at hx;exact h k s hx
theorem LiveIs.gives {R : RSt} {L : List KBlk} (h : LiveIs R L) (k0 s0 : Nat) (t z site : Int) (x : KBlk) (hl : x.live = true) (hk : x.k = k0) (hs : x.s = s0) : LiveIs ⟨R.st, R.rest, R.cls, R.log ++ [⟨false, k0, s0, t, z, site⟩], R.marks⟩ (L ++ [x]) := by
 intro k s hx
 by_cases e : k = k0 ∧ s = s0
 ·obtain ⟨rfl, rfl⟩ := e;refine ⟨L.length, by simp, ?_⟩;rw [getD_appL, if_pos rfl];exact ⟨hl, hk, hs⟩
 ·change Ref.state (R.log ++ [_]) k s = 3 at hx
  rw [state_other _ _ _ _ (by
   cases eg : (⟨false, (k0 : Int), (s0 : Int), t, z, site⟩ : Ref.Ev).gives k s
   ·rfl
   ·exact absurd ((gives_eq _ _ _ _ _ _ _).1 eg) e) (takes_no _ _ _ _ _ _ _)] at hx
  obtain ⟨i, hi, h1⟩ := h k s hx;refine ⟨i, by simp; omega, ?_⟩;rw [getD_appL, if_neg (by omega)];exact h1
theorem LiveIs.takes {R : RSt} {L : List KBlk} (h : LiveIs R L) (k0 s0 : Nat) (site : Int) (h3 : Ref.state R.log k0 s0 = 3) (i : Nat) (hi : i < L.length) (hk : (L.getD i KBlk.no).k = k0) (hs : (L.getD i KBlk.no).s = s0) (y : KBlk) : LiveIs ⟨R.st, R.rest, R.cls, R.log ++ [⟨true, k0, s0, 0, 0, site⟩], R.marks⟩ (L.set i y) := by
 intro k s hx;change Ref.state (R.log ++ [_]) k s = 3 at hx
 by_cases e : k = k0 ∧ s = s0
 ·obtain ⟨rfl, rfl⟩ := e;rw [state_takes _ _ _ _ (gives_no _ _ _ _ _ _ _) ((takes_eq _ _ _ _ _ _ _).2 ⟨rfl, rfl⟩) h3] at hx;exact absurd hx (by decide)
 ·rw [state_other _ _ _ _ (gives_no _ _ _ _ _ _ _) (by
   cases et : (⟨true, (k0 : Int), (s0 : Int), 0, 0, site⟩ : Ref.Ev).takes k s
   ·rfl
   ·exact absurd ((takes_eq _ _ _ _ _ _ _).1 et) e)] at hx
  obtain ⟨j, hj, h1, h2, h5⟩ := h k s hx;have hne : j ≠ i := fun x => e (by subst x; rw [hk] at h2; rw [hs] at h5; omega)
  refine ⟨j, by simp; omega, ?_⟩;rw [getD_setL _ _ _ _ hi, if_neg hne];exact ⟨h1, h2, h5⟩
theorem LiveIs.same {R : RSt} {L : List KBlk} (h : LiveIs R L) (i : Nat) (hi : i < L.length) (y : KBlk) (hl : y.live = (L.getD i KBlk.no).live) (hk : y.k = (L.getD i KBlk.no).k) (hs : y.s = (L.getD i KBlk.no).s) : LiveIs R (L.set i y) := by
 intro k s hx;obtain ⟨j, hj, h1, h2, h5⟩ := h k s hx;refine ⟨j, by simp; omega, ?_⟩;rw [getD_setL _ _ _ _ hi]
 by_cases e : j = i
 ·subst e; rw [if_pos rfl, hl, hk, hs]; exact ⟨h1, h2, h5⟩
 ·rw [if_neg e]; exact ⟨h1, h2, h5⟩
section
variable {B : KSt} {G : GSt} {R : RSt}
theorem KAll.at_now (h : KAll B G R) (n : Int) : KAll ⟨B.st, B.rest, B.cls, B.L, B.F, n⟩ G R := ⟨h.ok.at_now n, h.rs, h.lv⟩
theorem KAll.malloc (h : KAll B G R) (size draw site now : Int) (hsn : site = now) (wb : Nat) (k s : Nat) (h1 : 1 ≤ size) (hk : Ref.cls_ R.cls size = k) (hkl : k < R.cls.length) (hf : Ref.first R.log R.rest R.cls k = (s : Int)) (hs : s < (Cf.sl R.cls k).toNat) (hz : size ≤ 16 * Cf.gr R.cls k)
 (hm : mOut R size draw = ((Ref.tagOf R.log k s draw : Int) * 72057594037927936 + Cf.begin_ R.st R.cls k s, 0)) :
 KAll ⟨B.st, B.rest, B.cls, B.L ++ [⟨(Ref.tagOf R.log k s draw : Int) * 72057594037927936 + Cf.begin_ R.st R.cls k s, k, s, List.replicate (16 * Ref.gsz size).toNat 0, wb, true, now, 0⟩], B.F, B.now⟩ (mG G R size draw site) (mR R size draw site) := by
 refine ⟨h.ok.malloc size draw site now hsn wb k s h1 hk hkl hf hs hz hm, ?_, ?_⟩
 ·have hat := Ref.firstFrom_at (Ref.openB R.log R.rest k) (Cf.sl R.cls k).toNat 0 (by change 0 ≤ Ref.first R.log R.rest R.cls k; omega);have ho := hat.2;change Ref.openB R.log R.rest k (Ref.first R.log R.rest R.cls k).toNat = true at ho;rw [hf, Int.toNat_natCast] at ho;obtain ⟨_, _, hr0, _⟩ := h.ok.chosen k s ho;rw [mR_ok hk hf (by rw [hm])];exact h.rs.gives k s _ _ _ hr0
 ·rw [mR_ok hk hf (by rw [hm])];exact h.lv.gives k s _ _ _ _ rfl rfl rfl
theorem KAll.left (h : KAll B G R) (i : Nat) (hi : i < B.L.length) (hl : (B.L.getD i KBlk.no).live = true) (site : Int) (hsn : site = B.now) : KAll (kleft B i) (fG G R (B.L.getD i KBlk.no).p site) (fR R (B.L.getD i KBlk.no).p site) := by
 obtain ⟨k, s, hli⟩ := h.ok.live i hi hl;have hb := hli.block h.ok.simb;have hbd := hli.bd h.ok.simb;have hp := hli.p;have hq : (B.L.getD i KBlk.no).p ≠ 0 := by omega
 have hfr : fR R (B.L.getD i KBlk.no).p site = ⟨R.st, R.rest, R.cls, R.log ++ [⟨true, k, s, 0, 0, site⟩], R.marks⟩ := by
  unfold fR; rw [hb, if_pos ⟨hq, rfl⟩]
 refine ⟨h.ok.left i hi hl site hsn, ?_, ?_⟩
 ·rw [hfr];have := h.rs.takes h.ok.simb.sim.rok.conf.re0 k s site hli.st;show RestIs _ (B.F ++ [((B.L.getD i KBlk.no).k, (B.L.getD i KBlk.no).s)]);rw [hli.ek, hli.es];exact this
 ·rw [hfr];exact h.lv.takes k s site hli.st i hi hli.ek hli.es _
theorem KAll.bytes (h : KAll B G R) (i : Nat) (hi : i < B.L.length) (hl : (B.L.getD i KBlk.no).live = true) {G' : GSt} {R' : RSt} (hs : SimB G' R') (h1 : R'.st = R.st) (h2 : R'.rest = R.rest) (h3 : R'.cls = R.cls) (h4 : R'.log = R.log)
 (want : List Int) (hw : want.length = (B.L.getD i KBlk.no).want.length)
 (hin : ∀ k s : Nat, KLive R (B.L.getD i KBlk.no) k s → ∀ t : Nat, t < want.length → want.getD t 0 = R'.byte (Cf.begin_ R.st R.cls k s + t))
 (hout : ∀ (k s : Nat) (a : Int), KLive R (B.L.getD i KBlk.no) k s → (∀ t : Nat, t < want.length → a ≠ Cf.begin_ R.st R.cls k s + t) → R'.byte a = R.byte a) :
 KAll ⟨B.st, B.rest, B.cls, B.L.set i ((B.L.getD i KBlk.no).withWant want), B.F, B.now⟩ G' R' :=
 ⟨h.ok.bytes i hi hl hs h1 h2 h3 h4 want hw hin hout, h.rs.log h2 h4, (h.lv.same i hi ((B.L.getD i KBlk.no).withWant want) rfl rfl rfl).log h4⟩
theorem KAll.realloc (h : KAll B G R) (i : Nat) (hi : i < B.L.length) (hl : (B.L.getD i KBlk.no).live = true) (size draw site now : Int) (hsn : site = now) (hnw : site = B.now) (wb : Nat) (k' s' : Nat) (h1 : 1 ≤ size) (hk : Ref.cls_ R.cls size = k') (hkl : k' < R.cls.length) (hf : Ref.first R.log R.rest R.cls k' = (s' : Int)) (hs : s' < (Cf.sl R.cls k').toNat) (hz : size ≤ 16 * Cf.gr R.cls k')
 (hm : mOut R size draw = ((Ref.tagOf R.log k' s' draw : Int) * 72057594037927936 + Cf.begin_ R.st R.cls k' s', 0)) :
 R.reOut (B.L.getD i KBlk.no).p size draw = mOut R size draw ∧
 KAll (kgrown B i ⟨(Ref.tagOf R.log k' s' draw : Int) * 72057594037927936 + Cf.begin_ R.st R.cls k' s', k', s', List.replicate (16 * Ref.gsz size).toNat 0, wb, true, now, 0⟩) (reG G R (B.L.getD i KBlk.no).p size draw site) (R.re (B.L.getD i KBlk.no).p size draw site) := by
 obtain ⟨ho, hok⟩ := h.ok.realloc i hi hl size draw site now hsn hnw wb k' s' h1 hk hkl hf hs hz hm;refine ⟨ho, ?_⟩
 suffices hh : RestIs (R.re (B.L.getD i KBlk.no).p size draw site) (kgrown B i ⟨(Ref.tagOf R.log k' s' draw : Int) * 72057594037927936 + Cf.begin_ R.st R.cls k' s', k', s', List.replicate (16 * Ref.gsz size).toNat 0, wb, true, now, 0⟩).F ∧ LiveIs (R.re (B.L.getD i KBlk.no).p size draw site) (kgrown B i ⟨(Ref.tagOf R.log k' s' draw : Int) * 72057594037927936 + Cf.begin_ R.st R.cls k' s', k', s', List.replicate (16 * Ref.gsz size).toNat 0, wb, true, now, 0⟩).L from ⟨hok, hh.1, hh.2⟩
 have hM := h.malloc size draw site now hsn wb k' s' h1 hk hkl hf hs hz hm;obtain ⟨x, hx⟩ : ∃ x : KBlk, x = ⟨(Ref.tagOf R.log k' s' draw : Int) * 72057594037927936 + Cf.begin_ R.st R.cls k' s', k', s', List.replicate (16 * Ref.gsz size).toNat 0, wb, true, now, 0⟩ := ⟨_, rfl⟩
 rw [← hx] at hM ⊢;have hgi : (B.L ++ [x]).getD i KBlk.no = B.L.getD i KBlk.no := by rw [getD_appL, if_neg (by omega)]
 obtain ⟨k, s, hli⟩ := hM.ok.live i (by show i < (B.L ++ [x]).length; simp; omega) (by show ((B.L ++ [x]).getD i KBlk.no).live = true; rw [hgi]; exact hl);change KLive _ ((B.L ++ [x]).getD i KBlk.no) k s at hli;rw [hgi] at hli;have hb := hli.block hM.ok.simb;have hbd := hli.bd hM.ok.simb;have hpp := hli.p;have hq : (B.L.getD i KBlk.no).p ≠ 0 := by omega
 obtain ⟨k0, s0, hli0⟩ := h.ok.live i hi hl;have hbad : ¬ R.reBad (B.L.getD i KBlk.no).p := fun y => y.2 (by rw [hli0.block h.ok.simb])
 have hm0 : ¬ ((mOut R size draw).2 ≠ 0 ∨ (B.L.getD i KBlk.no).p = 0) := by
  rintro (y | y)
  ·exact y (by rw [hm])
  ·exact hq y
 have hre : R.re (B.L.getD i KBlk.no).p size draw site = fR ((mR R size draw site).copies ((mOut R size draw).1 % 72057594037927936) ((B.L.getD i KBlk.no).p % 72057594037927936) (R.reN (B.L.getD i KBlk.no).p size draw site)) (B.L.getD i KBlk.no).p site := by
  unfold RSt.re; rw [if_neg hbad, if_neg hm0]
 rw [hre];obtain ⟨e1, e2, e3, e4, _⟩ := RSt.copies_same (mR R size draw site) ((mOut R size draw).1 % 72057594037927936) ((B.L.getD i KBlk.no).p % 72057594037927936) (R.reN (B.L.getD i KBlk.no).p size draw site);clear hre hok;generalize (mR R size draw site).copies ((mOut R size draw).1 % 72057594037927936) ((B.L.getD i KBlk.no).p % 72057594037927936) (R.reN (B.L.getD i KBlk.no).p size draw site) = R2 at *
 have hfr : fR R2 (B.L.getD i KBlk.no).p site = ⟨R2.st, R2.rest, R2.cls, R2.log ++ [⟨true, k, s, 0, 0, site⟩], R2.marks⟩ := by
  unfold fR; rw [e1, e3, e4, hb, if_pos ⟨hq, rfl⟩]
 have hst : Ref.state R2.log k s = 3 := by rw [e4]; exact hli.st
 have hre0 : 0 ≤ R2.rest := by rw [e2]; exact hM.ok.simb.sim.rok.conf.re0
 have hgx : (B.L ++ [x]).getD B.L.length KBlk.no = x := by rw [getD_appL, if_pos rfl]
 have hL := ((hM.lv.same B.L.length (by show _ < (B.L ++ [x]).length; simp) (x.withWant (kcopied x.want (B.L.getD i KBlk.no).want)) (by show _ = ((B.L ++ [x]).getD _ _).live; rw [hgx]; rfl) (by show _ = ((B.L ++ [x]).getD _ _).k; rw [hgx]; rfl) (by show _ = ((B.L ++ [x]).getD _ _).s; rw [hgx]; rfl)).log e4)
 have hgi2 : ((B.L ++ [x]).set B.L.length (x.withWant (kcopied x.want (B.L.getD i KBlk.no).want))).getD i KBlk.no = B.L.getD i KBlk.no := by
  rw [getD_setL _ _ _ _ (by simp), if_neg (by omega), hgi]
 rw [hfr]
 constructor
 ·have := (hM.rs.log e2 e4).takes hre0 k s site hst;show RestIs _ (B.F ++ [((((B.L ++ [x]).set B.L.length (x.withWant (kcopied x.want (B.L.getD i KBlk.no).want))).getD i KBlk.no).k, (((B.L ++ [x]).set B.L.length (x.withWant (kcopied x.want (B.L.getD i KBlk.no).want))).getD i KBlk.no).s)]);rw [hgi2, hli.ek, hli.es];exact this
 ·exact hL.takes k s site hst i (by show i < ((B.L ++ [x]).set _ _).length; simp; omega) (by show (((B.L ++ [x]).set _ _).getD i KBlk.no).k = _; rw [hgi2]; exact hli.ek) (by show (((B.L ++ [x]).set _ _).getD i KBlk.no).s = _; rw [hgi2]; exact hli.es) _
theorem KAll.state3 (h : KAll B G R) (k s : Nat) : Ref.state R.log k s = 3 ↔ ∃ i, i < B.L.length ∧ (B.L.getD i KBlk.no).live = true ∧ (B.L.getD i KBlk.no).k = k ∧ (B.L.getD i KBlk.no).s = s := by
 refine ⟨h.lv k s, fun ⟨i, hi, hl, hk, hs⟩ => ?_⟩;obtain ⟨k', s', hli⟩ := h.ok.live i hi hl;have e1 := hli.ek;have e2 := hli.es;have : k' = k ∧ s' = s := by omega
 obtain ⟨rfl, rfl⟩ := this;exact hli.st
theorem KAll.open_ (h : KAll B G R) (k s : Nat) (h3 : Ref.state R.log k s ≠ 3) : Ref.openB R.log R.rest k s = !krests B.F B.rest k s := by
 rw [h.ok.rest, krests_is h.rs h.ok.rests h.ok.simb.sim.log k s h3];unfold Ref.openB;simp [h3]
end
end Go.Proofs.YtjikemhmnkckcabGreat
