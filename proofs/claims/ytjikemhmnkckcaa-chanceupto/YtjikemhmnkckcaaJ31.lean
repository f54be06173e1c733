import Derived.Test.YtjikemhmnkckcaaJ30
/- The simulation with its bytes, kept by Malloc, Free, Realloc. -/
namespace Go.Proofs.Ytjikemhmnkckcaa
open Go.RowKit

theorem clearTo_getD (mem : List Int) (b m : Nat) (h : b + m ≤ mem.length) (x : Nat) : (clearTo mem b m).getD x 0 = if b ≤ x ∧ x < b + m then 0 else mem.getD x 0 := by
  induction m with
  | zero => rw [if_neg (by omega)]; rfl
  | succ m ih =>
    simp only [clearTo]
    rw [getD_setI _ _ _ _ (by rw [clearTo_len]; omega), ih (by omega)]
    by_cases h1 : x = b + m
    · rw [if_pos h1, if_pos (by omega)]
    · rw [if_neg h1]
      by_cases h2 : b ≤ x ∧ x < b + m
      · rw [if_pos h2, if_pos (by omega)]
      · rw [if_neg h2, if_neg (by omega)]

theorem gsz_fit {size g : Int} (h1 : 1 ≤ size) (h2 : size ≤ 16 * g) : 1 ≤ Ref.gsz size ∧ Ref.gsz size ≤ g := by unfold Ref.gsz; omega

theorem SimB.malloc {G : GSt} {R : RSt} (h : SimB G R) (size draw site : Int) : SimB (mG G R size draw site) (mR R size draw site) := by
  have hsm := sim_malloc h.sim size draw site
  have hv := h.sim.rok.conf
  rcases mOut_cases R h.sim.rok size draw with ⟨_, hm⟩ | ⟨k, _, _, _, _, hm⟩ | ⟨k, s, h1, hk, hkl, hf, hs, hz, hm⟩
  · unfold mG mR; rw [hm]; exact h
  · unfold mG mR; rw [hm]; exact h
  · rw [mG_ok hk hf (by rw [hm]), mR_ok hk hf (by rw [hm])] at hsm ⊢
    have hfit := gsz_fit h1 hz
    have hbe := Cf.begin_end hv k s hkl (by omega)
    have hbb := Cf.begin_bd hv k hkl s (by omega) (by have := hv.s1 k hkl; omega)
    have hmem := h.sim.mem
    rw [h.sim.st] at hmem
    have hin : (Cf.begin_ G.st R.cls k s).toNat + (16 * Ref.gsz size).toNat ≤ G.mem.length := by rw [h.sim.st]; omega
    have hgd := clearTo_getD G.mem (Cf.begin_ G.st R.cls k s).toNat (16 * Ref.gsz size).toNat hin
    refine ⟨hsm, h.marks.event _, fun i hi => ?_, fun addr t1 t2 => ?_, h.fits.snoc _ (fun _ => ⟨hfit.1, by simpa using hfit.2, by have := PickMath.pick_lo (Ref.last R.log k s) (Ref.last R.log k ((s : Int) - 1)) (Ref.last R.log k ((s : Int) + 1)) draw; show (1 : Int) ≤ ((PickMath.pick _ _ _ _ : Nat) : Int); omega, by have := PickMath.pick_hi (Ref.last R.log k s) (Ref.last R.log k ((s : Int) - 1)) (Ref.last R.log k ((s : Int) + 1)) draw; show ((PickMath.pick _ _ _ _ : Nat) : Int) ≤ 14; omega⟩)⟩
    · change i < (clearTo _ _ _).length at hi
      rw [clearTo_len] at hi
      show 0 ≤ (clearTo _ _ _).getD i 0 ∧ (clearTo _ _ _).getD i 0 ≤ 255
      rw [hgd]
      split
      · omega
      · exact h.mem i hi
    · show (clearTo _ _ _).getD addr.toNat 0 = _
      rw [hgd]
      obtain ⟨e, he⟩ : ∃ e : Ref.Ev, e = ⟨false, k, s, Ref.tagOf R.log k s draw, Ref.gsz size, site⟩ := ⟨_, rfl⟩
      rw [← he] at t1 t2 ⊢
      have h16 := hsm.there addr (by rw [← he]; exact t1)
      by_cases hsl : Cf.slot R.st R.cls addr = ((k : Int), (s : Int))
      · have hgv : e.gives (Cf.slot R.st R.cls addr).1 (Cf.slot R.st R.cls addr).2 = true := by rw [hsl, he]; exact (gives_eq _ _ _ k s k s).2 ⟨rfl, rfl⟩
        rw [RSt.byte_gives h.marks e addr (by rw [hsl]; simp) hgv, h.sim.st]
        rw [if_pos]
        have hin2 : Cf.begin_ R.st R.cls k s ≤ addr ∧ addr < Cf.begin_ R.st R.cls k s + 16 * Cf.gr R.cls k := by
          rcases Cf.slot_bd R.st R.cls addr with hx | ⟨k2, s2, hx, _, _, hi⟩
          · rw [hx] at hsl; have := congrArg Prod.fst hsl; simp at this
          · rw [hx] at hsl
            have e1 := congrArg Prod.fst hsl
            have e2 := congrArg Prod.snd hsl
            simp at e1 e2
            obtain rfl : k2 = k := by omega
            obtain rfl : s2 = s := by omega
            simpa only [Cf.inS, Bool.and_eq_true, decide_eq_true_eq] using hi
        have hlt : addr < Cf.begin_ R.st R.cls k s + 16 * Ref.gsz size := by
          by_cases hc : addr < Cf.begin_ R.st R.cls k s + 16 * Ref.gsz size
          · exact hc
          · exfalso
            apply t2
            refine tag_rest (R := ⟨R.st, R.rest, R.cls, R.log ++ [e], R.marks⟩) hv k s hkl hs addr hin2.1 hin2.2 (.inr ?_)
            have hgv2 : e.gives k s = true := by rw [hsl] at hgv; exact hgv
            show Cf.begin_ R.st R.cls k s + 16 * ((R.log ++ [e]).getD (Ref.given (R.log ++ [e]) k s).toNat Ref.Ev.no).size ≤ addr
            rw [size_gives _ _ _ _ hgv2, he]
            show _ + 16 * Ref.gsz size ≤ addr
            omega
        omega
      · have hoth : 0 ≤ (Cf.slot R.st R.cls addr).1 → e.gives (Cf.slot R.st R.cls addr).1 (Cf.slot R.st R.cls addr).2 = false ∧ e.takes (Cf.slot R.st R.cls addr).1 (Cf.slot R.st R.cls addr).2 = false := fun h0 => by
          rcases Cf.slot_bd R.st R.cls addr with hx | ⟨k2, s2, hx, _, _, hi⟩
          · rw [hx] at h0; simp at h0
          · rw [hx] at hsl ⊢
            constructor
            · cases eg : e.gives ((k2 : Int), (s2 : Int)).1 ((k2 : Int), (s2 : Int)).2
              · rfl
              · rw [he] at eg
                have := (gives_eq _ _ _ k s k2 s2).1 eg
                exact absurd (by rw [this.1, this.2]) hsl
            · rw [he]; exact takes_no _ _ _ _ _ _ _
        have hto : RSt.tag ⟨R.st, R.rest, R.cls, R.log ++ [e], R.marks⟩ addr = R.tag addr := tag_other R.st R.cls R.log e addr hoth
        rw [hto] at t1 t2
        rw [RSt.byte_event R e addr (fun h0 => (hoth h0).1), if_neg, h.bytes addr t1 t2]
        intro hc
        apply hsl
        refine slot_at hv k s hkl hs addr ?_ ?_
        · rw [h.sim.st] at hc; omega
        · rw [h.sim.st] at hc; omega

theorem SimB.free {G : GSt} {R : RSt} (h : SimB G R) (k s : Nat) (hk : k < R.cls.length) (hs : s < (Cf.sl R.cls k).toNat) (h3 : Ref.state R.log k s = 3) (site : Int) :
    SimB (G.withSlots k (freed (G.cs.getD k GCls.no).slots s G.rest site)) ⟨R.st, R.rest, R.cls, R.log ++ [⟨true, k, s, 0, 0, site⟩], R.marks⟩ := by
  have hv := h.sim.rok.conf
  refine ⟨h.sim.free k s hk hs h3 site, h.marks.event _, h.mem, fun addr t1 t2 => ?_, h.fits.snoc _ (fun x => by cases x)⟩
  show G.mem.getD addr.toNat 0 = _
  obtain ⟨e, he⟩ : ∃ e : Ref.Ev, e = ⟨true, k, s, 0, 0, site⟩ := ⟨_, rfl⟩
  rw [← he] at t1 t2 ⊢
  have hg : ∀ a b, e.gives a b = false := fun a b => by rw [he]; exact gives_no _ _ _ _ _ _ _
  rw [RSt.byte_event R e addr (fun _ => hg _ _)]
  have hoth : 0 ≤ (Cf.slot R.st R.cls addr).1 → e.gives (Cf.slot R.st R.cls addr).1 (Cf.slot R.st R.cls addr).2 = false ∧ e.takes (Cf.slot R.st R.cls addr).1 (Cf.slot R.st R.cls addr).2 = false := fun h0 => by
    refine ⟨hg _ _, ?_⟩
    rcases Cf.slot_bd R.st R.cls addr with hx | ⟨k2, s2, hx, hk2, hs2, hi⟩
    · rw [hx] at h0; simp at h0
    · rw [hx]
      cases et : e.takes ((k2 : Int), (s2 : Int)).1 ((k2 : Int), (s2 : Int)).2
      · rfl
      · exfalso
        rw [he] at et
        obtain ⟨rfl, rfl⟩ := (takes_eq _ _ _ k s k2 s2).1 et
        simp only [Cf.inS, Bool.and_eq_true, decide_eq_true_eq] at hi
        apply t2
        refine tag_rest (R := ⟨R.st, R.rest, R.cls, R.log ++ [e], R.marks⟩) hv k2 s2 hk2 hs2 addr hi.1 hi.2 (.inl ?_)
        show Ref.state (R.log ++ [e]) k2 s2 ≠ 3
        rw [state_takes R.log e k2 s2 (hg _ _) (by rw [he]; exact et) h3]; decide
  have hto : RSt.tag ⟨R.st, R.rest, R.cls, R.log ++ [e], R.marks⟩ addr = R.tag addr := tag_other R.st R.cls R.log e addr hoth
  rw [hto] at t1 t2
  exact h.bytes addr t1 t2

/-- what Free makes of the program's heap -/
def fG (G : GSt) (R : RSt) (q site : Int) : GSt :=
  if q ≠ 0 ∧ (Ref.block R.st R.cls R.log q).2.2 = 0 then G.withSlots (Ref.block R.st R.cls R.log q).1.toNat (freed (G.cs.getD (Ref.block R.st R.cls R.log q).1.toNat GCls.no).slots (Ref.block R.st R.cls R.log q).2.1.toNat G.rest site) else G
theorem SimB.free_any {G : GSt} {R : RSt} (h : SimB G R) (q site : Int) : SimB (fG G R q site) (fR R q site) := by
  unfold fG fR
  rcases block_cases R.st R.cls R.log q with he | ⟨k, s, he, hk, hsl, h3⟩
  · rw [if_neg (fun x => he x.2), if_neg (fun x => he x.2)]; exact h
  · by_cases hq : q = 0
    · rw [if_neg (fun x => x.1 hq), if_neg (fun x => x.1 hq)]; exact h
    · rw [if_pos ⟨hq, by rw [he]⟩, if_pos ⟨hq, by rw [he]⟩, he]
      exact h.free k s hk hsl h3 site
theorem fG_foot {G : GSt} {R : RSt} (h : Sim G R) (q site : Int) (p : Nat) (gc : Value) (bb b : Nat) : GFoot p gc bb (fG G R q site) b ↔ GFoot p gc bb G b := by
  unfold fG
  rcases block_cases R.st R.cls R.log q with he | ⟨k, s, he, hk, hsl, h3⟩
  · rw [if_neg (fun x => he x.2)]
  · by_cases hq : q = 0
    · rw [if_neg (fun x => x.1 hq)]
    · rw [if_pos ⟨hq, by rw [he]⟩, he]
      exact withSlots_foot G k _ (by rw [h.ok.len]; exact hk) p gc bb b
theorem gfree_st (p : Nat) (gc : Value) (bb : Nat) (G : GSt) (R : RSt) (q site : Int) (w : World) (h : GRep w p gc bb G) (hs : Sim G R) (q1 : q ≤ 9223372036854775807) :
    Calls Try.prog 94 #[.pointer (some ⟨p, 0, none⟩), .int .i64 q, .int .i64 site] w fun e w' => e = .returned (.int .i64 (fOut R q)) ∧ GRep w' p gc bb (fG G R q site) ∧ Kept w w' (GFoot p gc bb G) := by
  refine (gfree_all p gc bb G R q site w h hs q1).mono ?_
  rintro e w' ⟨rfl, hk, hc⟩
  unfold fDoes at hc
  refine ⟨rfl, ?_, hk⟩
  unfold fG
  rcases hc with ⟨hd, hR⟩ | ⟨k, s, hd, hb, _, _, _, hR⟩
  · rw [if_neg hd]; exact hR
  · rw [if_pos hd, hb]; exact hR
end Go.Proofs.Ytjikemhmnkckcaa
/- The program's Usable and Realloc. -/
namespace Go.Proofs.Ytjikemhmnkckcaa
open Go.RowKit

/-- what is read of a slot -/
theorem GRep.slotBytes {w : World} {p : Nat} {vc : Value} {bb : Nat} {G : GSt} (h : GRep w p vc bb G) (k s : Nat) (hk : k < G.cs.length) (hs : s < (G.cs.getD k GCls.no).slots.length) :
    ∃ g cap, vc = .slice (some ⟨g, 0, none⟩) G.cs.length cap ∧ cap ≤ maxLen ∧ g < w.heap.size ∧ w.cell? ⟨p, 2, none⟩ = some vc ∧
      w.cell? ⟨g, k * 3 + 2, none⟩ = some (.slice (some ⟨(G.cs.getD k GCls.no).sb, 0, none⟩) (G.cs.getD k GCls.no).slots.length (G.cs.getD k GCls.no).slots.length) ∧
      w.cell? ⟨(G.cs.getD k GCls.no).sb, s * 6 + 2, none⟩ = some (.int .i64 (slotOf G k s).bytes) := by
  obtain ⟨ac, cap, rfl, hcap, hmax, hrow⟩ := row_open h.cls
  obtain ⟨g, rfl, hgl, hcell, _⟩ := hrow (by omega)
  exact ⟨g, cap, rfl, hmax, hgl, h.blk.cell (j := 2) rfl, (gcls_cells hcell k hk).2.2, (slot_cells (h.slots k hk) s hs).2.2.1⟩

theorem Sim.slotBytes {G : GSt} {R : RSt} (h : Sim G R) (k s : Nat) (hk : k < R.cls.length) (hs : s < (Cf.sl R.cls k).toNat) (hg : 0 ≤ Ref.given R.log k s) : (slotOf G k s).bytes = 16 * (R.log.getD (Ref.given R.log k s).toNat Ref.Ev.no).size := (h.slots k s hk hs).bytes hg
theorem live_given {log : List Ref.Ev} {k s : Int} (h : Ref.state log k s = 3) : 0 ≤ Ref.given log k s := by
  rcases state_of log k s with x | x | x <;> omega

set_option maxRecDepth 100000 in
set_option maxHeartbeats 1600000 in
theorem gusable_any (p : Nat) (vc : Value) (bb : Nat) (G : GSt) (R : RSt) (q : Int) (w : World) (h : GRep w p vc bb G) (hs : Sim G R) (q1 : q ≤ 9223372036854775807) :
    Calls Try.prog 56 #[.pointer (some ⟨p, 0, none⟩), .int .i64 q] w fun e w' => e = .returned (.tuple #[.int .i64 (R.usable q).1, .int .i64 (R.usable q).2]) ∧ Below w.heap.size w w' := by
  have HR := hide2 h
  have HS := hide2 hs
  have HBL := hide2 (hs.block q)
  rcases block_cases R.st R.cls R.log q with he | ⟨k, s, he, hk, hsl, h3⟩
  · have HF : Hid (R.usable q = (0, (Ref.block R.st R.cls R.log q).2.2)) := if_pos he
    have heb : ((Ref.block R.st R.cls R.log q).2.2 != 0) = true := by simp [he]
    clear h hs he
    go_enter Try.func56, Try.ntmps56
    go_wp2_with (go_at_call 71; refine (blockOf_all p vc bb G R.rest R.cls q w HR.out HS.out.ok q1).mono ?_; rw [HBL.out]; rintro e1 w1 ⟨rfl, hb1⟩)
    go_ret2
    exact ⟨by rw [HF.out]; rfl, hb1⟩
  · have hgv := live_given h3
    have hkl : k < G.cs.length := by rw [hs.ok.len]; exact hk
    have hsl2 : s < (G.cs.getD k GCls.no).slots.length := by rw [hs.len hk]; exact hsl
    have HF : Hid (R.usable q = ((slotOf G k s).bytes, 0)) := by
      show _ = _
      unfold RSt.usable
      rw [he, if_neg (by simp), hs.slotBytes k s hk hsl hgv]
    have HE := hide2 he
    have hp := h.blk.lt
    have hsb := (h.slots k hkl).lt
    obtain ⟨g, cap, rfl, hmax, hgl, c2, d2, x2⟩ := h.slotBytes k s hkl hsl2
    unfold maxLen at hmax
    have hl4 : G.cs.length ≤ 4 := by have := hs.ok.conf.n1; have := hs.ok.len; omega
    have hx16 : (G.cs.getD k GCls.no).slots.length ≤ 16 := by have := hs.ok.sl k hk; have := hs.ok.conf.s1 k hk; omega
    have hkI : (k : Int) < (G.cs.length : Int) := by omega
    have hsI : (s : Int) < ((G.cs.getD k GCls.no).slots.length : Int) := by omega
    generalize (G.cs.getD k GCls.no).sb = sb at *
    generalize (G.cs.getD k GCls.no).slots = xs at *
    generalize (slotOf G k s).bytes = by_ at *
    clear h hs he h3 hgv hsl
    go_enter Try.func56, Try.ntmps56
    go_wp2_with fail
    refine (blockOf_all p _ bb G R.rest R.cls q w HR.out HS.out.ok q1).mono ?_
    rw [HBL.out, HE.out]
    rintro e1 w1 ⟨rfl, hb1⟩
    have c2' := (hb1.cell (p := ⟨p, 2, none⟩) hp).trans c2
    have d2' := (hb1.cell (p := ⟨g, k * 3 + 2, none⟩) hgl).trans d2
    have x2' := (hb1.cell (p := ⟨sb, s * 6 + 2, none⟩) hsb).trans x2
    clear c2 d2 x2
    go_wp2
    go_ret2
    exact ⟨by rw [HF.out]; rfl, hb1⟩
end Go.Proofs.Ytjikemhmnkckcaa
/- What Realloc makes of the program's heap. Plain mathematics. -/
namespace Go.Proofs.Ytjikemhmnkckcaa
open Go.RowKit

/-- Realloc gives a new block for a live one -/
structure ReOk (G : GSt) (R : RSt) (q size draw site : Int) (k s k' s' : Nat) (tg : Nat) : Prop where
  old : Ref.block R.st R.cls R.log q = ((k : Int), (s : Int), 0)
  hk : k < R.cls.length
  hs : s < (Cf.sl R.cls k).toNat
  h1 : 1 ≤ size
  hz : size ≤ 16 * Cf.gr R.cls k'
  hk' : k' < R.cls.length
  hs' : s' < (Cf.sl R.cls k').toNat
  t0 : 1 ≤ tg
  t1 : tg ≤ 14
  out : mOut R size draw = ((tg : Int) * 72057594037927936 + Cf.begin_ R.st R.cls k' s', 0)
  mr : mR R size draw site = ⟨R.st, R.rest, R.cls, R.log ++ [⟨false, k', s', tg, Ref.gsz size, site⟩], R.marks⟩
  ne : ¬ (k = k' ∧ s = s')

theorem re_cases {G : GSt} {R : RSt} (h : SimB G R) (q size draw site : Int) :
    (Ref.block R.st R.cls R.log q).2.2 ≠ 0 ∨ (mOut R size draw).2 ≠ 0 ∨ ∃ k s k' s' tg : Nat, ReOk G R q size draw site k s k' s' tg := by
  rcases block_cases R.st R.cls R.log q with he | ⟨k, s, he, hk, hsl, h3⟩
  · exact .inl he
  · right
    rcases mOut_cases R h.sim.rok size draw with ⟨_, hm⟩ | ⟨k', _, _, _, _, hm⟩ | ⟨k', s', h1, hk', hkl', hf, hs', hz, hm⟩
    · left; rw [hm]; decide
    · left; rw [hm]; decide
    · right
      refine ⟨k, s, k', s', Ref.tagOf R.log k' s' draw, he, hk, hsl, h1, hz, hkl', hs', PickMath.pick_lo _ _ _ _, PickMath.pick_hi _ _ _ _, hm, mR_ok hk' hf (by rw [hm]), ?_⟩
      rintro ⟨rfl, rfl⟩
      have hat := Ref.firstFrom_at (Ref.openB R.log R.rest k) (Cf.sl R.cls k).toNat 0 (by change 0 ≤ Ref.first R.log R.rest R.cls k; omega)
      have h2 := hat.2
      change Ref.openB R.log R.rest k (Ref.first R.log R.rest R.cls k).toNat = true at h2
      rw [hf, Int.toNat_natCast] at h2
      unfold Ref.openB at h2
      simp [h3] at h2

section
variable {G : GSt} {R : RSt} {q size draw site : Int} {k s k' s' tg : Nat}

theorem ReOk.gives (_h : ReOk G R q size draw site k s k' s' tg) : (⟨false, (k' : Int), (s' : Int), (tg : Int), Ref.gsz size, site⟩ : Ref.Ev).gives k' s' = true := (gives_eq _ _ _ _ _ _ _).2 ⟨rfl, rfl⟩
theorem ReOk.gives_old (h : ReOk G R q size draw site k s k' s' tg) : (⟨false, (k' : Int), (s' : Int), (tg : Int), Ref.gsz size, site⟩ : Ref.Ev).gives k s = false := by
  cases e : (⟨false, (k' : Int), (s' : Int), (tg : Int), Ref.gsz size, site⟩ : Ref.Ev).gives k s
  · rfl
  · exact absurd ((gives_eq _ _ _ _ _ _ _).1 e) h.ne
theorem ReOk.bnew (h : ReOk G R q size draw site k s k' s' tg) (hs : SimB G R) : 32 ≤ Cf.begin_ R.st R.cls k' s' ∧ Cf.begin_ R.st R.cls k' s' ≤ 8640 ∧ Cf.begin_ R.st R.cls k' s' + 16 * Cf.gr R.cls k' + 16 ≤ (G.mem.length : Int) := by
  have hv := hs.sim.rok.conf
  have e := Cf.begin_end hv k' s' h.hk' (by have := h.hs'; omega)
  have b := Cf.begin_bd hv k' h.hk' s' (by omega) (by have := hv.s1 k' h.hk'; have := h.hs'; omega)
  have m := hs.sim.mem
  rw [hs.sim.st] at m
  omega
theorem ReOk.bold (h : ReOk G R q size draw site k s k' s' tg) (hs : SimB G R) : 32 ≤ Cf.begin_ R.st R.cls k s ∧ Cf.begin_ R.st R.cls k s ≤ 8640 ∧ Cf.begin_ R.st R.cls k s + 16 * Cf.gr R.cls k + 16 ≤ (G.mem.length : Int) := by
  have hv := hs.sim.rok.conf
  have e := Cf.begin_end hv k s h.hk (by have := h.hs; omega)
  have b := Cf.begin_bd hv k h.hk s (by omega) (by have := hv.s1 k h.hk; have := h.hs; omega)
  have m := hs.sim.mem
  rw [hs.sim.st] at m
  omega
theorem ReOk.oldAt (h : ReOk G R q size draw site k s k' s' tg) (hs : SimB G R) : Ref.tameB q = true ∧ Cf.begin_ R.st R.cls k s = q % 72057594037927936 ∧ Ref.last R.log k s = q / 72057594037927936 ∧ Ref.state R.log k s = 3 :=
  ((block_iff hs.sim.rok.conf R.log q k s).1 h.old).2.2
/-- the old block behind Malloc -/
theorem ReOk.old1 (h : ReOk G R q size draw site k s k' s' tg) (hs : SimB G R) : Ref.block (mR R size draw site).st (mR R size draw site).cls (mR R size draw site).log q = ((k : Int), (s : Int), 0) := by
  obtain ⟨h1, h2, h3, h4⟩ := h.oldAt hs
  rw [h.mr]
  refine (block_iff hs.sim.rok.conf _ q k s).2 ⟨h.hk, h.hs, h1, h2, ?_, ?_⟩
  · show Ref.last (R.log ++ [_]) k s = _
    rw [last_other _ _ _ _ h.gives_old, h3]
  · show Ref.state (R.log ++ [_]) k s = 3
    rw [state_other _ _ _ _ h.gives_old (takes_no _ _ _ _ _ _ _), h4]
theorem ReOk.new1 (h : ReOk G R q size draw site k s k' s' tg) (hs : SimB G R) : Ref.block (mR R size draw site).st (mR R size draw site).cls (mR R size draw site).log (mOut R size draw).1 = ((k' : Int), (s' : Int), 0) := by
  have hb := h.bnew hs
  have t0 := h.t0
  have t1 := h.t1
  rw [h.mr, h.out]
  refine (block_iff hs.sim.rok.conf _ _ k' s').2 ⟨h.hk', h.hs', (tame_iff _).2 ⟨by show 0 ≤ _ + _; omega, by show (_ + _) / _ ≤ _; omega, by show (_ + _) % _ ≤ _; omega⟩, by show _ = (_ + _) % _; omega, ?_, ?_⟩
  · show Ref.last (R.log ++ [_]) k' s' = _
    rw [last_gives _ _ _ _ h.gives]
    show (tg : Int) = ((tg : Int) * 72057594037927936 + _) / _
    omega
  · show Ref.state (R.log ++ [_]) k' s' = 3
    exact state_gives _ _ _ _ h.gives
/-- how long the old block is -/
theorem ReOk.len (h : ReOk G R q size draw site k s k' s' tg) (hs : SimB G R) : ∃ z : Int, 1 ≤ z ∧ z ≤ Cf.gr R.cls k ∧ (R.log.getD (Ref.given R.log k s).toNat Ref.Ev.no).size = z ∧ ((mR R size draw site).usable q).1 = 16 * z ∧ ((mR R size draw site).usable (mOut R size draw).1).1 = 16 * Ref.gsz size ∧
    (slotOf (mG G R size draw site) k s).bytes = 16 * z := by
  have hgv := live_given (h.oldAt hs).2.2.2
  have hf := hs.fits.size k s hgv
  have hsz : ((mR R size draw site).log.getD (Ref.given (mR R size draw site).log k s).toNat Ref.Ev.no).size = (R.log.getD (Ref.given R.log k s).toNat Ref.Ev.no).size := by
    rw [h.mr]
    show ((R.log ++ [_]).getD (Ref.given (R.log ++ [_]) k s).toNat Ref.Ev.no).size = _
    rw [size_other _ _ _ _ h.gives_old hgv]
  have hg1 : 0 ≤ Ref.given (mR R size draw site).log k s := by
    rw [h.mr]
    show 0 ≤ Ref.given (R.log ++ [_]) k s
    rw [given_other _ _ _ _ h.gives_old]; exact hgv
  have hsm := sim_malloc hs.sim size draw site
  have hc : (mR R size draw site).cls = R.cls := by rw [h.mr]
  refine ⟨_, hf.1, hf.2, rfl, ?_, ?_, ?_⟩
  · unfold RSt.usable
    rw [h.old1 hs, if_neg (by simp)]
    show 16 * _ = _
    rw [hsz]
  · unfold RSt.usable
    rw [h.new1 hs, if_neg (by simp), h.mr]
    show 16 * ((R.log ++ [_]).getD (Ref.given (R.log ++ [_]) k' s').toNat Ref.Ev.no).size = _
    rw [size_gives _ _ _ _ h.gives]
  · rw [hsm.slotBytes k s (by rw [hc]; exact h.hk) (by rw [hc]; exact h.hs) hg1, hsz]

/-- the program's heap behind Realloc -/
def reG (G : GSt) (R : RSt) (q size draw site : Int) : GSt :=
  if R.reBad q then G else if (mOut R size draw).2 ≠ 0 ∨ q = 0 then mG G R size draw site
  else fG ⟨(mG G R size draw site).st, (mG G R size draw site).rest, (mG G R size draw site).cs, copyTo (mG G R size draw site).mem ((mOut R size draw).1 % 72057594037927936).toNat (q % 72057594037927936).toNat (R.reN q size draw site)⟩
    ((mR R size draw site).copies ((mOut R size draw).1 % 72057594037927936) (q % 72057594037927936) (R.reN q size draw site)) q site

theorem ReOk.out_at (h : ReOk G R q size draw site k s k' s' tg) (hs : SimB G R) : (mOut R size draw).1 % 72057594037927936 = Cf.begin_ R.st R.cls k' s' := by
  have hb := h.bnew hs
  rw [h.out]
  show ((tg : Int) * 72057594037927936 + _) % _ = _
  omega
theorem ReOk.n (h : ReOk G R q size draw site k s k' s' tg) (hs : SimB G R) : ∃ z : Int, 1 ≤ z ∧ z ≤ Cf.gr R.cls k ∧ (slotOf (mG G R size draw site) k s).bytes = 16 * z ∧ (R.reN q size draw site : Int) = min (16 * z) (16 * Ref.gsz size) := by
  obtain ⟨z, z0, z1, _, h1, h2, h3⟩ := h.len hs
  refine ⟨z, z0, z1, h3, ?_⟩
  have hf := gsz_fit h.h1 h.hz
  unfold RSt.reN
  rw [h1, h2]
  omega
theorem mG_memlen (G : GSt) (R : RSt) (size draw site : Int) : (mG G R size draw site).mem.length = G.mem.length := by
  unfold mG; split
  · exact clearTo_len _ _ _
  · rfl
theorem ReOk.copy (h : ReOk G R q size draw site k s k' s' tg) (hs : SimB G R) :
    SimB ⟨(mG G R size draw site).st, (mG G R size draw site).rest, (mG G R size draw site).cs, copyTo (mG G R size draw site).mem ((mOut R size draw).1 % 72057594037927936).toNat (q % 72057594037927936).toNat (R.reN q size draw site)⟩
      ((mR R size draw site).copies ((mOut R size draw).1 % 72057594037927936) (q % 72057594037927936) (R.reN q size draw site)) := by
  obtain ⟨z, z0, z1, hby, hn⟩ := h.n hs
  have hf := gsz_fit h.h1 h.hz
  have hb := h.bnew hs
  have ho := h.bold hs
  have ha := h.oldAt hs
  have hv := hs.sim.rok.conf
  have hm := mG_memlen G R size draw site
  have hst : (mR R size draw site).st = R.st := by rw [h.mr]
  have hcl : (mR R size draw site).cls = R.cls := by rw [h.mr]
  have hre : (mR R size draw site).rest = R.rest := by rw [h.mr]
  have hs1 := hs.malloc size draw site
  have hl1 : Ref.state (mR R size draw site).log k s = 3 := by
    rw [h.mr]
    show Ref.state (R.log ++ [_]) k s = 3
    rw [state_other _ _ _ _ h.gives_old (takes_no _ _ _ _ _ _ _), ha.2.2.2]
  rw [h.out_at hs, ← ha.2.1]
  have dis : Cf.begin_ R.st R.cls k s + 16 * Cf.gr R.cls k ≤ Cf.begin_ R.st R.cls k' s' ∨ Cf.begin_ R.st R.cls k' s' + 16 * Cf.gr R.cls k' ≤ Cf.begin_ R.st R.cls k s := by
    by_cases c1 : Cf.begin_ R.st R.cls k s + 16 * Cf.gr R.cls k ≤ Cf.begin_ R.st R.cls k' s'
    · exact .inl c1
    · by_cases c2 : Cf.begin_ R.st R.cls k' s' + 16 * Cf.gr R.cls k' ≤ Cf.begin_ R.st R.cls k s
      · exact .inr c2
      · exfalso
        apply h.ne
        have e1 := slot_at hv k s h.hk h.hs (max (Cf.begin_ R.st R.cls k s) (Cf.begin_ R.st R.cls k' s')) (by omega) (by have := hv.g0 k h.hk; omega)
        have e2 := slot_at hv k' s' h.hk' h.hs' (max (Cf.begin_ R.st R.cls k s) (Cf.begin_ R.st R.cls k' s')) (by omega) (by have := hv.g0 k' h.hk'; omega)
        rw [e1] at e2
        have x1 := congrArg Prod.fst e2
        have x2 := congrArg Prod.snd e2
        simp at x1 x2
        omega
  have hfs := hs1.fits.size k s (live_given hl1)
  have hft := hs1.fits.tag k s (live_given hl1)
  have hbz := hs1.sim.slotBytes k s (by rw [hcl]; exact h.hk) (by rw [hcl]; exact h.hs) (live_given hl1)
  have e := hs1.copy (Cf.begin_ R.st R.cls k' s').toNat (Cf.begin_ R.st R.cls k s).toNat (R.reN q size draw site) (by omega) (by omega) (by omega) (fun j hj => by
    have ht := tag_live (R := mR R size draw site) (by rw [hst, hcl, hre]; exact hv) k s (by rw [hcl]; exact h.hk) (by rw [hcl]; exact h.hs) hl1 (((Cf.begin_ R.st R.cls k s).toNat : Int) + (j : Int)) (by rw [hst, hcl]; omega) (by rw [hst, hcl]; omega) hfs.2
    rw [ht]; omega)
  rw [show (((Cf.begin_ R.st R.cls k' s').toNat : Nat) : Int) = Cf.begin_ R.st R.cls k' s' by omega, show (((Cf.begin_ R.st R.cls k s).toNat : Nat) : Int) = Cf.begin_ R.st R.cls k s by omega] at e
  exact e
end

theorem SimB.realloc {G : GSt} {R : RSt} (h : SimB G R) (q size draw site : Int) : SimB (reG G R q size draw site) (R.re q size draw site) := by
  unfold reG RSt.re
  by_cases hb : R.reBad q
  · rw [if_pos hb, if_pos hb]; exact h
  · rw [if_neg hb, if_neg hb]
    by_cases hm : (mOut R size draw).2 ≠ 0 ∨ q = 0
    · rw [if_pos hm, if_pos hm]; exact h.malloc size draw site
    · rw [if_neg hm, if_neg hm]
      refine SimB.free_any ?_ q site
      rcases re_cases h q size draw site with x | x | ⟨k, s, k', s', tg, hr⟩
      · exact absurd ⟨fun e => hm (.inr e), x⟩ hb
      · exact absurd (.inl x) hm
      · exact hr.copy h
theorem reG_foot {G : GSt} {R : RSt} (h : SimB G R) (q size draw site : Int) (p : Nat) (gc : Value) (bb b : Nat) : GFoot p gc bb (reG G R q size draw site) b ↔ GFoot p gc bb G b := by
  unfold reG
  by_cases hb : R.reBad q
  · rw [if_pos hb]
  · rw [if_neg hb]
    by_cases hm : (mOut R size draw).2 ≠ 0 ∨ q = 0
    · rw [if_pos hm]; exact mG_foot h.sim size draw site p gc bb b
    · rw [if_neg hm]
      rcases re_cases h q size draw site with x | x | ⟨k, s, k', s', tg, hr⟩
      · exact absurd ⟨fun e => hm (.inr e), x⟩ hb
      · exact absurd (.inl x) hm
      · exact (fG_foot (hr.copy h).sim q site p gc bb b).trans ((mem_foot _ _ _ _ _ _).trans (mG_foot h.sim size draw site p gc bb b))
end Go.Proofs.Ytjikemhmnkckcaa
