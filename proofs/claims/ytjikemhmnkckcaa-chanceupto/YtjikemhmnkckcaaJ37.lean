import Derived.Test.YtjikemhmnkckcaaJ36
/- The book against the heap: bytes that are written, and Realloc. Plain mathematics. -/
namespace Go.Proofs.Ytjikemhmnkckcaa
open Go.RowKit

theorem and_i64 (v : Int) : bits .and .i64 v 255 = v % 256 := by
  show IntKind.i64.wrap (((BitVec.ofInt 64 v &&& BitVec.ofInt 64 255).toNat : Nat) : Int) = _
  rw [BitVec.toNat_and, BitVec.toNat_ofInt, BitVec.toNat_ofInt, show ((255 : Int) % ((2 ^ 64 : Nat) : Int)).toNat = 2 ^ 8 - 1 by decide, Nat.and_two_pow_sub_one_eq_mod, IntKind.wrap_i64]
  omega

/-- two live blocks have no address in common -/
theorem KLive.apart {R : RSt} {x y : KBlk} {k s k' s' : Nat} (hv : Cf.Valid R.st R.rest R.cls) (hf : Fits R) (h : KLive R x k s) (g : KLive R y k' s') (hne : ¬ (k = k' ∧ s = s')) (i j : Nat) (hi : i < x.want.length) (hj : j < y.want.length) : Cf.begin_ R.st R.cls k s + (i : Int) ≠ Cf.begin_ R.st R.cls k' s' + (j : Int) := by
  intro e
  apply hne
  have z1 := (hf.size k s (live_given h.st)).2
  have z2 := (hf.size k' s' (live_given g.st)).2
  have l1 := h.len
  have l2 := g.len
  have e1 := slot_at hv k s h.hk h.hs (Cf.begin_ R.st R.cls k s + i) (by omega) (by omega)
  have e2 := slot_at hv k' s' g.hk g.hs (Cf.begin_ R.st R.cls k' s' + j) (by omega) (by omega)
  rw [e, e2] at e1
  have x1 := congrArg Prod.fst e1
  have x2 := congrArg Prod.snd e1
  simp at x1 x2
  omega

theorem withWant_live (x : KBlk) (want : List Int) : (x.withWant want).live = x.live ∧ (x.withWant want).k = x.k ∧ (x.withWant want).s = x.s ∧ (x.withWant want).p = x.p := ⟨rfl, rfl, rfl, rfl⟩

section
variable {B : KSt} {G : GSt} {R : RSt}
/-- the bytes of one live block turn, those of the others don't -/
theorem KOk.bytes (h : KOk B G R) (i : Nat) (hi : i < B.L.length) (hl : (B.L.getD i KBlk.no).live = true) {G' : GSt} {R' : RSt} (hs : SimB G' R') (h1 : R'.st = R.st) (h2 : R'.rest = R.rest) (h3 : R'.cls = R.cls) (h4 : R'.log = R.log)
    (want : List Int) (hw : want.length = (B.L.getD i KBlk.no).want.length)
    (hin : ∀ k s : Nat, KLive R (B.L.getD i KBlk.no) k s → ∀ t : Nat, t < want.length → want.getD t 0 = R'.byte (Cf.begin_ R.st R.cls k s + t))
    (hout : ∀ (k s : Nat) (a : Int), KLive R (B.L.getD i KBlk.no) k s → (∀ t : Nat, t < want.length → a ≠ Cf.begin_ R.st R.cls k s + t) → R'.byte a = R.byte a) :
    KOk ⟨B.st, B.rest, B.cls, B.L.set i ((B.L.getD i KBlk.no).withWant want), B.F, B.now⟩ G' R' := by
  have hv := h.simb.sim.rok.conf
  obtain ⟨k, s, hli⟩ := h.live i hi hl
  have hget : ∀ j, ((B.L.set i ((B.L.getD i KBlk.no).withWant want)).getD j KBlk.no) = if j = i then (B.L.getD i KBlk.no).withWant want else B.L.getD j KBlk.no := fun j => getD_setL _ _ _ _ hi
  have hgk : ∀ j, ((B.L.set i ((B.L.getD i KBlk.no).withWant want)).getD j KBlk.no).live = (B.L.getD j KBlk.no).live ∧ ((B.L.set i ((B.L.getD i KBlk.no).withWant want)).getD j KBlk.no).k = (B.L.getD j KBlk.no).k ∧ ((B.L.set i ((B.L.getD i KBlk.no).withWant want)).getD j KBlk.no).s = (B.L.getD j KBlk.no).s := fun j => by
    rw [hget]
    by_cases e : j = i
    · rw [if_pos e, e]; exact ⟨rfl, rfl, rfl⟩
    · rw [if_neg e]; exact ⟨rfl, rfl, rfl⟩
  have hll : (B.L.set i ((B.L.getD i KBlk.no).withWant want)).length = B.L.length := List.length_set
  refine ⟨hs, h.st.trans h1.symm, h.rest.trans h2.symm, h.cls.trans h3.symm, ?_, fun j hj hx => ?_, fun a b ha hb la lb e1 e2 => ?_, fun k' hk' => ?_, fun j hj => ?_, by rw [h4]; exact h.nb⟩
  · refine ⟨fun k hk v hv2 => ?_, fun k s n hn hst hx => ?_⟩
    · have e : ∀ s, R'.r k s = R.r k s := fun s => by unfold RSt.r; rw [h2, h4]
      rw [h3] at hk
      rw [h2, h3, cntTo_congr _ (fun s => decide (R.r k s = v)) _ (fun s _ => by rw [e])]
      exact h.rests.cnt k hk v hv2
    · have e : R'.r k s = R.r k s := by unfold RSt.r; rw [h2, h4]
      rw [h4] at hst
      rw [h2] at hx
      rw [e]; exact h.rests.look k s n hn hst hx
  · change j < (B.L.set i _).length at hj
    rw [hll] at hj
    change ((B.L.set i ((B.L.getD i KBlk.no).withWant want)).getD j KBlk.no).live = true at hx
    show ∃ k s : Nat, KLive R' ((B.L.set i ((B.L.getD i KBlk.no).withWant want)).getD j KBlk.no) k s
    rw [(hgk j).1] at hx
    rw [hget]
    by_cases e : j = i
    · rw [if_pos e]
      exact ⟨k, s, hli.marks h1 h3 h4 want hw (fun t ht => hin k s hli t ht)⟩
    · rw [if_neg e]
      obtain ⟨k', s', hlj⟩ := h.live j hj hx
      have hne : ¬ (k' = k ∧ s' = s) := fun y => e (h.uniq j i hj hi hx hl (by rw [hlj.ek, hli.ek, y.1]) (by rw [hlj.es, hli.es, y.2]))
      refine ⟨k', s', ?_⟩
      have := hlj.marks h1 h3 h4 (B.L.getD j KBlk.no).want rfl (fun t ht => by
        rw [hlj.byte t ht]
        exact (hout k s _ hli (fun t' ht' => KLive.apart hv h.simb.fits hlj hli hne t t' ht (by rw [← hw]; exact ht'))).symm)
      exact this
  · change a < (B.L.set i _).length at ha
    change b < (B.L.set i _).length at hb
    rw [hll] at ha hb
    change ((B.L.set i ((B.L.getD i KBlk.no).withWant want)).getD a KBlk.no).live = true at la
    change ((B.L.set i ((B.L.getD i KBlk.no).withWant want)).getD b KBlk.no).live = true at lb
    change ((B.L.set i ((B.L.getD i KBlk.no).withWant want)).getD a KBlk.no).k = ((B.L.set i ((B.L.getD i KBlk.no).withWant want)).getD b KBlk.no).k at e1
    change ((B.L.set i ((B.L.getD i KBlk.no).withWant want)).getD a KBlk.no).s = ((B.L.set i ((B.L.getD i KBlk.no).withWant want)).getD b KBlk.no).s at e2
    rw [(hgk a).1] at la
    rw [(hgk b).1] at lb
    rw [(hgk a).2.1, (hgk b).2.1] at e1
    rw [(hgk a).2.2, (hgk b).2.2] at e2
    exact h.uniq a b ha hb la lb e1 e2
  · show kliveN (B.L.set i _) k' (B.L.set i _).length = _
    rw [hll, h3, h4, kliveN_congr _ B.L k' B.L.length (fun j _ => by unfold kind; rw [(hgk j).1, (hgk j).2.1])]
    rw [h3] at hk'
    exact h.cnt k' hk'
  · change j < (B.L.set i _).length at hj
    rw [hll] at hj
    show ∃ (k s : Nat) (t : Int), KHad R' ((B.L.set i ((B.L.getD i KBlk.no).withWant want)).getD j KBlk.no) (klater (B.L.set i ((B.L.getD i KBlk.no).withWant want)) j) k s t
    have hkl2 : klater (B.L.set i ((B.L.getD i KBlk.no).withWant want)) j = klater B.L j := by
      unfold klater
      rw [hll]
      exact klaterTo_congr _ _ _ _ (fun m _ => (hgk m).2)
    rw [hkl2, hget]
    obtain ⟨k', s', t, hh⟩ := h.had j hj
    by_cases ej : j = i
    · subst ej
      rw [if_pos rfl]
      exact ⟨k', s', t, hh.ek, hh.es, by rw [h3]; exact hh.hk, by rw [h3]; exact hh.hs, by rw [h4]; exact hh.gv, hh.t0, hh.t1, by rw [h1, h3]; exact hh.p, by rw [h4]; exact hh.cur, by rw [h4]; exact hh.dead, by rw [h4]; exact hh.old, hh.lv⟩
    · rw [if_neg ej]
      exact ⟨k', s', t, hh.ek, hh.es, by rw [h3]; exact hh.hk, by rw [h3]; exact hh.hs, by rw [h4]; exact hh.gv, hh.t0, hh.t1, by rw [h1, h3]; exact hh.p, by rw [h4]; exact hh.cur, by rw [h4]; exact hh.dead, by rw [h4]; exact hh.old, hh.lv⟩

/-- one byte is written -/
theorem KOk.write (h : KOk B G R) (i j : Nat) (hi : i < B.L.length) (hl : (B.L.getD i KBlk.no).live = true) (hj : j < (B.L.getD i KBlk.no).want.length) (v : Int) :
    R.storeErr ((B.L.getD i KBlk.no).p + j) 1 = 0 ∧ KOk ⟨B.st, B.rest, B.cls, B.L.set i ((B.L.getD i KBlk.no).withWant ((B.L.getD i KBlk.no).want.set j (v % 256))), B.F, B.now⟩ (G.store R ((B.L.getD i KBlk.no).p + j) 1 v) (R.store ((B.L.getD i KBlk.no).p + j) 1 v) := by
  obtain ⟨k0, s0, hli0⟩ := h.live i hi hl
  have herr : R.storeErr ((B.L.getD i KBlk.no).p + j) 1 = 0 := by
    unfold RSt.storeErr
    rw [if_neg (by decide)]; exact hli0.access h.simb j hj
  refine ⟨herr, ?_⟩
  have hst : R.store ((B.L.getD i KBlk.no).p + j) 1 v = R.stores (((B.L.getD i KBlk.no).p + j) % 72057594037927936) v 1 := if_pos herr
  have hsame := R.stores_same (((B.L.getD i KBlk.no).p + j) % 72057594037927936) v 1
  have hby : ∀ a, (R.store ((B.L.getD i KBlk.no).p + j) 1 v).byte a = if a = ((B.L.getD i KBlk.no).p + j) % 72057594037927936 then v % 256 else R.byte a := fun a => by
    rw [hst, RSt.stores_byte]
    by_cases e : a = ((B.L.getD i KBlk.no).p + j) % 72057594037927936
    · rw [if_pos (by omega), if_pos e, show (a - ((B.L.getD i KBlk.no).p + j) % 72057594037927936).toNat = 0 by omega]
      show v % 18446744073709551616 % 256 = v % 256
      omega
    · rw [if_neg (by omega), if_neg e]
  refine h.bytes i hi hl (h.simb.store_any _ _ _) (by rw [hst]; exact hsame.1) (by rw [hst]; exact hsame.2.1) (by rw [hst]; exact hsame.2.2.1) (by rw [hst]; exact hsame.2.2.2.1) _ List.length_set ?_ ?_
  · intro k s hli t ht
    have hat := (hli.at_ h.simb j hj).1
    rw [List.length_set] at ht
    rw [hby, hat, getD_setI _ _ _ _ hj]
    by_cases e : t = j
    · rw [if_pos e, if_pos (by omega)]
    · rw [if_neg e, if_neg (by omega)]; exact hli.byte t ht
  · intro k s a hli hn
    have hat := (hli.at_ h.simb j hj).1
    rw [hby, hat, if_neg (hn j (by rw [List.length_set]; exact hj))]
end
end Go.Proofs.Ytjikemhmnkckcaa
/- The book against the heap: Realloc. Plain mathematics. -/
namespace Go.Proofs.Ytjikemhmnkckcaa
open Go.RowKit

/-- what stands in the new block -/
def kcopied (new old : List Int) : List Int := old.take (min old.length new.length) ++ new.drop (min old.length new.length)
theorem kcopied_len (new old : List Int) : (kcopied new old).length = new.length := by unfold kcopied; simp; omega
theorem kcopied_getD (new old : List Int) (t : Nat) : (kcopied new old).getD t 0 = if t < min old.length new.length then old.getD t 0 else new.getD t 0 := by
  unfold kcopied
  have l1 : (old.take (min old.length new.length)).length = min old.length new.length := by rw [List.length_take]; omega
  simp only [List.getD_eq_getElem?_getD]
  by_cases h : t < min old.length new.length
  · rw [List.getElem?_append_left (by omega), List.getElem?_take, if_pos h, if_pos h]
  · rw [List.getElem?_append_right (by omega), l1, List.getElem?_drop, if_neg h, show min old.length new.length + (t - min old.length new.length) = t by omega]

/-- the book behind Realloc of block i -/
def kgrown (B : KSt) (i : Nat) (x : KBlk) : KSt :=
  kleft ⟨B.st, B.rest, B.cls, (B.L ++ [x]).set B.L.length (x.withWant (kcopied x.want (B.L.getD i KBlk.no).want)), B.F, B.now⟩ i

section
variable {B : KSt} {G : GSt} {R : RSt}
theorem KOk.realloc (h : KOk B G R) (i : Nat) (hi : i < B.L.length) (hl : (B.L.getD i KBlk.no).live = true) (size draw site now : Int) (hsn : site = now) (hnw : site = B.now) (wb : Nat) (k' s' : Nat) (h1 : 1 ≤ size) (hk : Ref.cls_ R.cls size = k') (hkl : k' < R.cls.length) (hf : Ref.first R.log R.rest R.cls k' = (s' : Int)) (hs : s' < (Cf.sl R.cls k').toNat) (hz : size ≤ 16 * Cf.gr R.cls k')
    (hm : mOut R size draw = ((Ref.tagOf R.log k' s' draw : Int) * 72057594037927936 + Cf.begin_ R.st R.cls k' s', 0)) :
    R.reOut (B.L.getD i KBlk.no).p size draw = mOut R size draw ∧
    KOk (kgrown B i ⟨(Ref.tagOf R.log k' s' draw : Int) * 72057594037927936 + Cf.begin_ R.st R.cls k' s', k', s', List.replicate (16 * Ref.gsz size).toNat 0, wb, true, now, 0⟩) (reG G R (B.L.getD i KBlk.no).p size draw site) (R.re (B.L.getD i KBlk.no).p size draw site) := by
  obtain ⟨k, s, hli⟩ := h.live i hi hl
  have hb := hli.block h.simb
  have hbd := hli.bd h.simb
  have hpp := hli.p
  have hq : (B.L.getD i KBlk.no).p ≠ 0 := by omega
  have hbad : ¬ R.reBad (B.L.getD i KBlk.no).p := fun y => y.2 (by rw [hb])
  have hm0 : ¬ ((mOut R size draw).2 ≠ 0 ∨ (B.L.getD i KBlk.no).p = 0) := by
    rintro (y | y)
    · exact y (by rw [hm])
    · exact hq y
  refine ⟨if_neg hbad, ?_⟩
  rcases re_cases h.simb (B.L.getD i KBlk.no).p size draw site with y | y | ⟨k1, s1, k2, s2, tg, hr⟩
  · exact absurd (by rw [hb]) y
  · exact absurd (by rw [hm]) y
  have hk1 : k1 = k ∧ s1 = s := by
    have e := hr.old
    rw [hb] at e
    have e1 := congrArg Prod.fst e
    have e2 := congrArg (fun y => y.2.1) e
    simp at e1 e2
    omega
  obtain ⟨rfl, rfl⟩ := hk1
  have hM := h.malloc size draw site now hsn wb k' s' h1 hk hkl hf hs hz hm
  have hR := mR_ok (draw := draw) (site := site) hk hf (by rw [hm])
  have hre : R.re (B.L.getD i KBlk.no).p size draw site = fR ((mR R size draw site).copies ((mOut R size draw).1 % 72057594037927936) ((B.L.getD i KBlk.no).p % 72057594037927936) (R.reN (B.L.getD i KBlk.no).p size draw site)) (B.L.getD i KBlk.no).p site := by
    unfold RSt.re; rw [if_neg hbad, if_neg hm0]
  have hrg : reG G R (B.L.getD i KBlk.no).p size draw site = fG ⟨(mG G R size draw site).st, (mG G R size draw site).rest, (mG G R size draw site).cs, copyTo (mG G R size draw site).mem ((mOut R size draw).1 % 72057594037927936).toNat ((B.L.getD i KBlk.no).p % 72057594037927936).toNat (R.reN (B.L.getD i KBlk.no).p size draw site)⟩
    ((mR R size draw site).copies ((mOut R size draw).1 % 72057594037927936) ((B.L.getD i KBlk.no).p % 72057594037927936) (R.reN (B.L.getD i KBlk.no).p size draw site)) (B.L.getD i KBlk.no).p site := by
    unfold reG; rw [if_neg hbad, if_neg hm0]
  obtain ⟨x, hx⟩ : ∃ x : KBlk, x = ⟨(Ref.tagOf R.log k' s' draw : Int) * 72057594037927936 + Cf.begin_ R.st R.cls k' s', k', s', List.replicate (16 * Ref.gsz size).toNat 0, wb, true, now, 0⟩ := ⟨_, rfl⟩
  rw [← hx] at hM
  rw [← hx, hre, hrg]
  have hsc := hr.copy h.simb
  obtain ⟨z, z0, z1, hby, hn⟩ := hr.n h.simb
  -- the addresses, the number of bytes
  have hfit := gsz_fit h1 hz
  have hbn := Cf.begin_bd h.simb.sim.rok.conf k' hkl s' (by omega) (by have := h.simb.sim.rok.conf.s1 k' hkl; omega)
  have t0 := PickMath.pick_lo (Ref.last R.log k' s') (Ref.last R.log k' ((s' : Int) - 1)) (Ref.last R.log k' ((s' : Int) + 1)) draw
  have t1 := PickMath.pick_hi (Ref.last R.log k' s') (Ref.last R.log k' ((s' : Int) - 1)) (Ref.last R.log k' ((s' : Int) + 1)) draw
  change 1 ≤ Ref.tagOf R.log k' s' draw at t0
  change Ref.tagOf R.log k' s' draw ≤ 14 at t1
  have ha : (mOut R size draw).1 % 72057594037927936 = Cf.begin_ R.st R.cls k' s' := by
    rw [hm]
    show ((Ref.tagOf R.log k' s' draw : Int) * 72057594037927936 + _) % _ = _
    omega
  have hbb : (B.L.getD i KBlk.no).p % 72057594037927936 = Cf.begin_ R.st R.cls k1 s1 := (hr.oldAt h.simb).2.1.symm
  have hwl : ((B.L.getD i KBlk.no).want.length : Int) = 16 * z := by
    have e1 := h.simb.malloc size draw site
    have e2 := hM.live i (by show i < (B.L ++ [x]).length; simp; omega) (by show ((B.L ++ [x]).getD i KBlk.no).live = true; rw [getD_appL, if_neg (by omega)]; exact hl)
    obtain ⟨k3, s3, hl3⟩ := e2
    change KLive _ ((B.L ++ [x]).getD i KBlk.no) k3 s3 at hl3
    rw [getD_appL, if_neg (by omega)] at hl3
    have e3 := hl3.ek
    have e4 := hl3.es
    rw [hli.ek] at e3
    rw [hli.es] at e4
    obtain rfl : k1 = k3 := by omega
    obtain rfl : s1 = s3 := by omega
    rw [hl3.len, ← hby]
    exact (e1.sim.slotBytes k1 s1 hl3.hk hl3.hs (live_given hl3.st)).symm
  have hxl : (x.want.length : Int) = 16 * Ref.gsz size := by
    rw [hx]
    show ((List.replicate (16 * Ref.gsz size).toNat (0 : Int)).length : Int) = _
    rw [List.length_replicate]; omega
  have hN : R.reN (B.L.getD i KBlk.no).p size draw site = min (B.L.getD i KBlk.no).want.length x.want.length := by omega
  have hcs := (mR R size draw site).copies_same ((mOut R size draw).1 % 72057594037927936) ((B.L.getD i KBlk.no).p % 72057594037927936) (R.reN (B.L.getD i KBlk.no).p size draw site)
  have hlast : (B.L ++ [x]).getD B.L.length KBlk.no = x := by rw [getD_appL, if_pos rfl]
  have hxlive : x.live = true := by rw [hx]
  have hM1 : KOk ⟨B.st, B.rest, B.cls, (B.L ++ [x]).set B.L.length (x.withWant (kcopied x.want (B.L.getD i KBlk.no).want)), B.F, B.now⟩
      ⟨(mG G R size draw site).st, (mG G R size draw site).rest, (mG G R size draw site).cs, copyTo (mG G R size draw site).mem ((mOut R size draw).1 % 72057594037927936).toNat ((B.L.getD i KBlk.no).p % 72057594037927936).toNat (R.reN (B.L.getD i KBlk.no).p size draw site)⟩
      ((mR R size draw site).copies ((mOut R size draw).1 % 72057594037927936) ((B.L.getD i KBlk.no).p % 72057594037927936) (R.reN (B.L.getD i KBlk.no).p size draw site)) := by
    have hst : (mR R size draw site).st = R.st := by rw [hR]
    have hcl : (mR R size draw site).cls = R.cls := by rw [hR]
    -- both blocks, by the heap behind Malloc
    obtain ⟨ka, sa, la⟩ := hM.live i (by show i < (B.L ++ [x]).length; simp; omega) (by show ((B.L ++ [x]).getD i KBlk.no).live = true; rw [getD_appL, if_neg (by omega)]; exact hl)
    change KLive _ ((B.L ++ [x]).getD i KBlk.no) ka sa at la
    rw [getD_appL, if_neg (by omega)] at la
    have ea := la.ek
    have eb := la.es
    rw [hli.ek] at ea
    rw [hli.es] at eb
    obtain rfl : k1 = ka := by omega
    obtain rfl : s1 = sa := by omega
    obtain ⟨kb, sb, lb⟩ := hM.live B.L.length (by show B.L.length < (B.L ++ [x]).length; simp) (by show ((B.L ++ [x]).getD B.L.length KBlk.no).live = true; rw [hlast]; exact hxlive)
    change KLive _ ((B.L ++ [x]).getD B.L.length KBlk.no) kb sb at lb
    rw [hlast] at lb
    have hxk : x.k = k' ∧ x.s = s' := by rw [hx]; exact ⟨rfl, rfl⟩
    have ec := lb.ek
    have ed := lb.es
    rw [hxk.1] at ec
    rw [hxk.2] at ed
    obtain rfl : k' = kb := by omega
    obtain rfl : s' = sb := by omega
    have hapart : ∀ (a b : Nat), a < (B.L.getD i KBlk.no).want.length → b < x.want.length → Cf.begin_ R.st R.cls k1 s1 + (a : Int) ≠ Cf.begin_ R.st R.cls k' s' + (b : Int) := fun a b h5 h6 => by
      have := KLive.apart (hM.simb.sim.rok.conf) hM.simb.fits la lb (fun y => by
        have h7 := hM.uniq i B.L.length (by show i < (B.L ++ [x]).length; simp; omega) (by show B.L.length < (B.L ++ [x]).length; simp) (by show ((B.L ++ [x]).getD i KBlk.no).live = true; rw [getD_appL, if_neg (by omega)]; exact hl) (by show ((B.L ++ [x]).getD B.L.length KBlk.no).live = true; rw [hlast]; exact hxlive)
          (by show ((B.L ++ [x]).getD i KBlk.no).k = ((B.L ++ [x]).getD B.L.length KBlk.no).k; rw [hlast, getD_appL, if_neg (by omega), hli.ek, hxk.1, y.1])
          (by show ((B.L ++ [x]).getD i KBlk.no).s = ((B.L ++ [x]).getD B.L.length KBlk.no).s; rw [hlast, getD_appL, if_neg (by omega), hli.es, hxk.2, y.2])
        omega) a b h5 h6
      rw [hst, hcl] at this
      exact this
    have hdis : Cf.begin_ R.st R.cls k1 s1 + (min (B.L.getD i KBlk.no).want.length x.want.length : Nat) ≤ Cf.begin_ R.st R.cls k' s' ∨ Cf.begin_ R.st R.cls k' s' + (min (B.L.getD i KBlk.no).want.length x.want.length : Nat) ≤ Cf.begin_ R.st R.cls k1 s1 := by
      by_cases c1 : Cf.begin_ R.st R.cls k1 s1 + (min (B.L.getD i KBlk.no).want.length x.want.length : Nat) ≤ Cf.begin_ R.st R.cls k' s'
      · exact .inl c1
      · by_cases c2 : Cf.begin_ R.st R.cls k' s' + (min (B.L.getD i KBlk.no).want.length x.want.length : Nat) ≤ Cf.begin_ R.st R.cls k1 s1
        · exact .inr c2
        · exfalso
          have := hapart (max (Cf.begin_ R.st R.cls k1 s1) (Cf.begin_ R.st R.cls k' s') - Cf.begin_ R.st R.cls k1 s1).toNat (max (Cf.begin_ R.st R.cls k1 s1) (Cf.begin_ R.st R.cls k' s') - Cf.begin_ R.st R.cls k' s').toNat (by omega) (by omega)
          omega
    have hcb := (mR R size draw site).copies_byte (Cf.begin_ R.st R.cls k' s') (Cf.begin_ R.st R.cls k1 s1) (min (B.L.getD i KBlk.no).want.length x.want.length) hdis
    rw [ha, hbb, hN] at hsc hcs ⊢
    have key := hM.bytes B.L.length (by show B.L.length < (B.L ++ [x]).length; simp) (by show ((B.L ++ [x]).getD B.L.length KBlk.no).live = true; rw [hlast]; exact hxlive) hsc hcs.1 hcs.2.1 hcs.2.2.1 hcs.2.2.2.1 (kcopied x.want (B.L.getD i KBlk.no).want) (by show _ = ((B.L ++ [x]).getD B.L.length KBlk.no).want.length; rw [hlast]; exact kcopied_len _ _) ?_ ?_
    · change KOk ⟨B.st, B.rest, B.cls, (B.L ++ [x]).set B.L.length (((B.L ++ [x]).getD B.L.length KBlk.no).withWant (kcopied x.want (B.L.getD i KBlk.no).want)), B.F, B.now⟩ _ _ at key
      rw [hlast] at key
      exact key
    · intro kc sc lc t ht
      change KLive _ ((B.L ++ [x]).getD B.L.length KBlk.no) kc sc at lc
      rw [hlast] at lc
      have f1 := lc.ek
      have f2 := lc.es
      rw [hxk.1] at f1
      rw [hxk.2] at f2
      obtain rfl : k' = kc := by omega
      obtain rfl : s' = sc := by omega
      rw [kcopied_len] at ht
      rw [hst, hcl, hcb, kcopied_getD]
      by_cases c : t < min (B.L.getD i KBlk.no).want.length x.want.length
      · rw [if_pos c, if_pos (by omega), la.byte t (by omega), hst, hcl, show Cf.begin_ R.st R.cls k1 s1 + (Cf.begin_ R.st R.cls k' s' + (t : Int) - Cf.begin_ R.st R.cls k' s') = Cf.begin_ R.st R.cls k1 s1 + t by omega]
      · rw [if_neg c, if_neg (by omega), lc.byte t ht, hst, hcl]
    · intro kc sc a lc hno
      change KLive _ ((B.L ++ [x]).getD B.L.length KBlk.no) kc sc at lc
      rw [hlast] at lc
      have f1 := lc.ek
      have f2 := lc.es
      rw [hxk.1] at f1
      rw [hxk.2] at f2
      obtain rfl : k' = kc := by omega
      obtain rfl : s' = sc := by omega
      rw [hst, hcl] at hno
      rw [hcb, if_neg]
      intro y
      refine hno (a - Cf.begin_ R.st R.cls k' s').toNat ?_ (by omega)
      rw [kcopied_len]; omega
  have hgi : ((B.L ++ [x]).set B.L.length (x.withWant (kcopied x.want (B.L.getD i KBlk.no).want))).getD i KBlk.no = B.L.getD i KBlk.no := by
    rw [getD_setL _ _ _ _ (by simp), if_neg (by omega), getD_appL, if_neg (by omega)]
  have hfin := hM1.left i (by show i < ((B.L ++ [x]).set _ _).length; rw [List.length_set]; simp; omega) (by show (((B.L ++ [x]).set _ _).getD i KBlk.no).live = true; rw [hgi]; exact hl) site hnw
  change KOk (kleft _ i) (fG _ _ (((B.L ++ [x]).set B.L.length (x.withWant (kcopied x.want (B.L.getD i KBlk.no).want))).getD i KBlk.no).p site) (fR _ (((B.L ++ [x]).set B.L.length (x.withWant (kcopied x.want (B.L.getD i KBlk.no).want))).getD i KBlk.no).p site) at hfin
  rw [hgi] at hfin
  exact hfin
end
end Go.Proofs.Ytjikemhmnkckcaa
