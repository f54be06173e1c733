import Derived.Test.YtjikemhmnkckcaaJ45
/- What Realloc makes of the program's heap. Plain mathematics. -/
namespace Go.Proofs.Ytjikemhmnkckcaa
open Go.RowKit

/-- Realloc gives a new block for a live one -/
structure ReOk (G : GSt) (R : RSt) (q size draw site : Int) (k s k' s' : Nat) (tg : Nat) : Prop where
  old : Ref.block R.st R.cls R.log q = ((k : Int), (s : Int), 0)
  hk : k < R.cls.length
  hs : s < (Cf.sl R.cls k).toNat
  h1 : 1 ≤ size
  hz : size ≤ 16 * Cf.gr R.cls k'
  hk' : k' < R.cls.length
  hs' : s' < (Cf.sl R.cls k').toNat
  t0 : 1 ≤ tg
  t1 : tg ≤ 14
  out : mOut R size draw = ((tg : Int) * 72057594037927936 + Cf.begin_ R.st R.cls k' s', 0)
  mr : mR R size draw site = ⟨R.st, R.rest, R.cls, R.log ++ [⟨false, k', s', tg, Ref.gsz size, site⟩], R.marks⟩
  ne : ¬ (k = k' ∧ s = s')

theorem re_cases {G : GSt} {R : RSt} (h : SimB G R) (q size draw site : Int) :
    (Ref.block R.st R.cls R.log q).2.2 ≠ 0 ∨ (mOut R size draw).2 ≠ 0 ∨ ∃ k s k' s' tg : Nat, ReOk G R q size draw site k s k' s' tg := by
  rcases block_cases R.st R.cls R.log q with he | ⟨k, s, he, hk, hsl, h3⟩
  · exact .inl he
  · right
    rcases mOut_cases R h.sim.rok size draw with ⟨_, hm⟩ | ⟨k', _, _, _, _, hm⟩ | ⟨k', s', h1, hk', hkl', hf, hs', hz, hm⟩
    · left; rw [hm]; decide
    · left; rw [hm]; decide
    · right
      refine ⟨k, s, k', s', Ref.tagOf R.log k' s' draw, he, hk, hsl, h1, hz, hkl', hs', PickMath.pick_lo _ _ _ _, PickMath.pick_hi _ _ _ _, hm, mR_ok hk' hf (by rw [hm]), ?_⟩
      rintro ⟨rfl, rfl⟩
      have hat := Ref.firstFrom_at (Ref.openB R.log R.rest k) (Cf.sl R.cls k).toNat 0 (by change 0 ≤ Ref.first R.log R.rest R.cls k; omega)
      have h2 := hat.2
      change Ref.openB R.log R.rest k (Ref.first R.log R.rest R.cls k).toNat = true at h2
      rw [hf, Int.toNat_natCast] at h2
      unfold Ref.openB at h2
      simp [h3] at h2

section
variable {G : GSt} {R : RSt} {q size draw site : Int} {k s k' s' tg : Nat}

theorem ReOk.gives (_h : ReOk G R q size draw site k s k' s' tg) : (⟨false, (k' : Int), (s' : Int), (tg : Int), Ref.gsz size, site⟩ : Ref.Ev).gives k' s' = true := (gives_eq _ _ _ _ _ _ _).2 ⟨rfl, rfl⟩
theorem ReOk.gives_old (h : ReOk G R q size draw site k s k' s' tg) : (⟨false, (k' : Int), (s' : Int), (tg : Int), Ref.gsz size, site⟩ : Ref.Ev).gives k s = false := by
  cases e : (⟨false, (k' : Int), (s' : Int), (tg : Int), Ref.gsz size, site⟩ : Ref.Ev).gives k s
  · rfl
  · exact absurd ((gives_eq _ _ _ _ _ _ _).1 e) h.ne
theorem ReOk.bnew (h : ReOk G R q size draw site k s k' s' tg) (hs : SimB G R) : 32 ≤ Cf.begin_ R.st R.cls k' s' ∧ Cf.begin_ R.st R.cls k' s' ≤ 8640 ∧ Cf.begin_ R.st R.cls k' s' + 16 * Cf.gr R.cls k' + 16 ≤ (G.mem.length : Int) := by
  have hv := hs.sim.rok.conf
  have e := Cf.begin_end hv k' s' h.hk' (by have := h.hs'; omega)
  have b := Cf.begin_bd hv k' h.hk' s' (by omega) (by have := hv.s1 k' h.hk'; have := h.hs'; omega)
  have m := hs.sim.mem
  rw [hs.sim.st] at m
  omega
theorem ReOk.bold (h : ReOk G R q size draw site k s k' s' tg) (hs : SimB G R) : 32 ≤ Cf.begin_ R.st R.cls k s ∧ Cf.begin_ R.st R.cls k s ≤ 8640 ∧ Cf.begin_ R.st R.cls k s + 16 * Cf.gr R.cls k + 16 ≤ (G.mem.length : Int) := by
  have hv := hs.sim.rok.conf
  have e := Cf.begin_end hv k s h.hk (by have := h.hs; omega)
  have b := Cf.begin_bd hv k h.hk s (by omega) (by have := hv.s1 k h.hk; have := h.hs; omega)
  have m := hs.sim.mem
  rw [hs.sim.st] at m
  omega
theorem ReOk.oldAt (h : ReOk G R q size draw site k s k' s' tg) (hs : SimB G R) : Ref.tameB q = true ∧ Cf.begin_ R.st R.cls k s = q % 72057594037927936 ∧ Ref.last R.log k s = q / 72057594037927936 ∧ Ref.state R.log k s = 3 :=
  ((block_iff hs.sim.rok.conf R.log q k s).1 h.old).2.2
/-- the old block behind Malloc -/
theorem ReOk.old1 (h : ReOk G R q size draw site k s k' s' tg) (hs : SimB G R) : Ref.block (mR R size draw site).st (mR R size draw site).cls (mR R size draw site).log q = ((k : Int), (s : Int), 0) := by
  obtain ⟨h1, h2, h3, h4⟩ := h.oldAt hs
  rw [h.mr]
  refine (block_iff hs.sim.rok.conf _ q k s).2 ⟨h.hk, h.hs, h1, h2, ?_, ?_⟩
  · show Ref.last (R.log ++ [_]) k s = _
    rw [last_other _ _ _ _ h.gives_old, h3]
  · show Ref.state (R.log ++ [_]) k s = 3
    rw [state_other _ _ _ _ h.gives_old (takes_no _ _ _ _ _ _ _), h4]
theorem ReOk.new1 (h : ReOk G R q size draw site k s k' s' tg) (hs : SimB G R) : Ref.block (mR R size draw site).st (mR R size draw site).cls (mR R size draw site).log (mOut R size draw).1 = ((k' : Int), (s' : Int), 0) := by
  have hb := h.bnew hs
  have t0 := h.t0
  have t1 := h.t1
  rw [h.mr, h.out]
  refine (block_iff hs.sim.rok.conf _ _ k' s').2 ⟨h.hk', h.hs', (tame_iff _).2 ⟨by show 0 ≤ _ + _; omega, by show (_ + _) / _ ≤ _; omega, by show (_ + _) % _ ≤ _; omega⟩, by show _ = (_ + _) % _; omega, ?_, ?_⟩
  · show Ref.last (R.log ++ [_]) k' s' = _
    rw [last_gives _ _ _ _ h.gives]
    show (tg : Int) = ((tg : Int) * 72057594037927936 + _) / _
    omega
  · show Ref.state (R.log ++ [_]) k' s' = 3
    exact state_gives _ _ _ _ h.gives
/-- how long the old block is -/
theorem ReOk.len (h : ReOk G R q size draw site k s k' s' tg) (hs : SimB G R) : ∃ z : Int, 1 ≤ z ∧ z ≤ Cf.gr R.cls k ∧ (R.log.getD (Ref.given R.log k s).toNat Ref.Ev.no).size = z ∧ ((mR R size draw site).usable q).1 = 16 * z ∧ ((mR R size draw site).usable (mOut R size draw).1).1 = 16 * Ref.gsz size ∧
    (slotOf (mG G R size draw site) k s).bytes = 16 * z := by
  have hgv := live_given (h.oldAt hs).2.2.2
  have hf := hs.fits.size k s hgv
  have hsz : ((mR R size draw site).log.getD (Ref.given (mR R size draw site).log k s).toNat Ref.Ev.no).size = (R.log.getD (Ref.given R.log k s).toNat Ref.Ev.no).size := by
    rw [h.mr]
    show ((R.log ++ [_]).getD (Ref.given (R.log ++ [_]) k s).toNat Ref.Ev.no).size = _
    rw [size_other _ _ _ _ h.gives_old hgv]
  have hg1 : 0 ≤ Ref.given (mR R size draw site).log k s := by
    rw [h.mr]
    show 0 ≤ Ref.given (R.log ++ [_]) k s
    rw [given_other _ _ _ _ h.gives_old]; exact hgv
  have hsm := sim_malloc hs.sim size draw site
  have hc : (mR R size draw site).cls = R.cls := by rw [h.mr]
  refine ⟨_, hf.1, hf.2, rfl, ?_, ?_, ?_⟩
  · unfold RSt.usable
    rw [h.old1 hs, if_neg (by simp)]
    show 16 * _ = _
    rw [hsz]
  · unfold RSt.usable
    rw [h.new1 hs, if_neg (by simp), h.mr]
    show 16 * ((R.log ++ [_]).getD (Ref.given (R.log ++ [_]) k' s').toNat Ref.Ev.no).size = _
    rw [size_gives _ _ _ _ h.gives]
  · rw [hsm.slotBytes k s (by rw [hc]; exact h.hk) (by rw [hc]; exact h.hs) hg1, hsz]

/-- the program's heap behind Realloc -/
def reG (G : GSt) (R : RSt) (q size draw site : Int) : GSt :=
  if R.reBad q then G else if (mOut R size draw).2 ≠ 0 ∨ q = 0 then mG G R size draw site
  else fG ⟨(mG G R size draw site).st, (mG G R size draw site).rest, (mG G R size draw site).cs, copyTo (mG G R size draw site).mem ((mOut R size draw).1 % 72057594037927936).toNat (q % 72057594037927936).toNat (R.reN q size draw site)⟩
    ((mR R size draw site).copies ((mOut R size draw).1 % 72057594037927936) (q % 72057594037927936) (R.reN q size draw site)) q site

theorem ReOk.out_at (h : ReOk G R q size draw site k s k' s' tg) (hs : SimB G R) : (mOut R size draw).1 % 72057594037927936 = Cf.begin_ R.st R.cls k' s' := by
  have hb := h.bnew hs
  rw [h.out]
  show ((tg : Int) * 72057594037927936 + _) % _ = _
  omega
theorem ReOk.n (h : ReOk G R q size draw site k s k' s' tg) (hs : SimB G R) : ∃ z : Int, 1 ≤ z ∧ z ≤ Cf.gr R.cls k ∧ (slotOf (mG G R size draw site) k s).bytes = 16 * z ∧ (R.reN q size draw site : Int) = min (16 * z) (16 * Ref.gsz size) := by
  obtain ⟨z, z0, z1, _, h1, h2, h3⟩ := h.len hs
  refine ⟨z, z0, z1, h3, ?_⟩
  have hf := gsz_fit h.h1 h.hz
  unfold RSt.reN
  rw [h1, h2]
  omega
theorem mG_memlen (G : GSt) (R : RSt) (size draw site : Int) : (mG G R size draw site).mem.length = G.mem.length := by
  unfold mG; split
  · exact clearTo_len _ _ _
  · rfl
theorem ReOk.copy (h : ReOk G R q size draw site k s k' s' tg) (hs : SimB G R) :
    SimB ⟨(mG G R size draw site).st, (mG G R size draw site).rest, (mG G R size draw site).cs, copyTo (mG G R size draw site).mem ((mOut R size draw).1 % 72057594037927936).toNat (q % 72057594037927936).toNat (R.reN q size draw site)⟩
      ((mR R size draw site).copies ((mOut R size draw).1 % 72057594037927936) (q % 72057594037927936) (R.reN q size draw site)) := by
  obtain ⟨z, z0, z1, hby, hn⟩ := h.n hs
  have hf := gsz_fit h.h1 h.hz
  have hb := h.bnew hs
  have ho := h.bold hs
  have ha := h.oldAt hs
  have hv := hs.sim.rok.conf
  have hm := mG_memlen G R size draw site
  have hst : (mR R size draw site).st = R.st := by rw [h.mr]
  have hcl : (mR R size draw site).cls = R.cls := by rw [h.mr]
  have hre : (mR R size draw site).rest = R.rest := by rw [h.mr]
  have hs1 := hs.malloc size draw site
  have hl1 : Ref.state (mR R size draw site).log k s = 3 := by
    rw [h.mr]
    show Ref.state (R.log ++ [_]) k s = 3
    rw [state_other _ _ _ _ h.gives_old (takes_no _ _ _ _ _ _ _), ha.2.2.2]
  rw [h.out_at hs, ← ha.2.1]
  have dis : Cf.begin_ R.st R.cls k s + 16 * Cf.gr R.cls k ≤ Cf.begin_ R.st R.cls k' s' ∨ Cf.begin_ R.st R.cls k' s' + 16 * Cf.gr R.cls k' ≤ Cf.begin_ R.st R.cls k s := by
    by_cases c1 : Cf.begin_ R.st R.cls k s + 16 * Cf.gr R.cls k ≤ Cf.begin_ R.st R.cls k' s'
    · exact .inl c1
    · by_cases c2 : Cf.begin_ R.st R.cls k' s' + 16 * Cf.gr R.cls k' ≤ Cf.begin_ R.st R.cls k s
      · exact .inr c2
      · exfalso
        apply h.ne
        have e1 := slot_at hv k s h.hk h.hs (max (Cf.begin_ R.st R.cls k s) (Cf.begin_ R.st R.cls k' s')) (by omega) (by have := hv.g0 k h.hk; omega)
        have e2 := slot_at hv k' s' h.hk' h.hs' (max (Cf.begin_ R.st R.cls k s) (Cf.begin_ R.st R.cls k' s')) (by omega) (by have := hv.g0 k' h.hk'; omega)
        rw [e1] at e2
        have x1 := congrArg Prod.fst e2
        have x2 := congrArg Prod.snd e2
        simp at x1 x2
        omega
  have hfs := hs1.fits.size k s (live_given hl1)
  have hft := hs1.fits.tag k s (live_given hl1)
  have hbz := hs1.sim.slotBytes k s (by rw [hcl]; exact h.hk) (by rw [hcl]; exact h.hs) (live_given hl1)
  have e := hs1.copy (Cf.begin_ R.st R.cls k' s').toNat (Cf.begin_ R.st R.cls k s).toNat (R.reN q size draw site) (by omega) (by omega) (by omega) (fun j hj => by
    have ht := tag_live (R := mR R size draw site) (by rw [hst, hcl, hre]; exact hv) k s (by rw [hcl]; exact h.hk) (by rw [hcl]; exact h.hs) hl1 (((Cf.begin_ R.st R.cls k s).toNat : Int) + (j : Int)) (by rw [hst, hcl]; omega) (by rw [hst, hcl]; omega) hfs.2
    rw [ht]; omega)
  rw [show (((Cf.begin_ R.st R.cls k' s').toNat : Nat) : Int) = Cf.begin_ R.st R.cls k' s' by omega, show (((Cf.begin_ R.st R.cls k s).toNat : Nat) : Int) = Cf.begin_ R.st R.cls k s by omega] at e
  exact e
end

theorem SimB.realloc {G : GSt} {R : RSt} (h : SimB G R) (q size draw site : Int) : SimB (reG G R q size draw site) (R.re q size draw site) := by
  unfold reG RSt.re
  by_cases hb : R.reBad q
  · rw [if_pos hb, if_pos hb]; exact h
  · rw [if_neg hb, if_neg hb]
    by_cases hm : (mOut R size draw).2 ≠ 0 ∨ q = 0
    · rw [if_pos hm, if_pos hm]; exact h.malloc size draw site
    · rw [if_neg hm, if_neg hm]
      refine SimB.free_any ?_ q site
      rcases re_cases h q size draw site with x | x | ⟨k, s, k', s', tg, hr⟩
      · exact absurd ⟨fun e => hm (.inr e), x⟩ hb
      · exact absurd (.inl x) hm
      · exact hr.copy h
theorem reG_foot {G : GSt} {R : RSt} (h : SimB G R) (q size draw site : Int) (p : Nat) (gc : Value) (bb b : Nat) : GFoot p gc bb (reG G R q size draw site) b ↔ GFoot p gc bb G b := by
  unfold reG
  by_cases hb : R.reBad q
  · rw [if_pos hb]
  · rw [if_neg hb]
    by_cases hm : (mOut R size draw).2 ≠ 0 ∨ q = 0
    · rw [if_pos hm]; exact mG_foot h.sim size draw site p gc bb b
    · rw [if_neg hm]
      rcases re_cases h q size draw site with x | x | ⟨k, s, k', s', tg, hr⟩
      · exact absurd ⟨fun e => hm (.inr e), x⟩ hb
      · exact absurd (.inl x) hm
      · exact (fG_foot (hr.copy h).sim q site p gc bb b).trans ((mem_foot _ _ _ _ _ _).trans (mG_foot h.sim size draw site p gc bb b))
end Go.Proofs.Ytjikemhmnkckcaa
