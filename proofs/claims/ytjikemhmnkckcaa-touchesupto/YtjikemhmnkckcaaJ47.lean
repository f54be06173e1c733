import Derived.Test.YtjikemhmnkckcaaJ45
import Derived.Test.YtjikemhmnkckcaaJ46
/- The simulation with its bytes, kept by Malloc, Free, Realloc. -/
namespace Go.Proofs.Ytjikemhmnkckcaa
open Go.RowKit

theorem clearTo_getD (mem : List Int) (b m : Nat) (h : b + m ≤ mem.length) (x : Nat) : (clearTo mem b m).getD x 0 = if b ≤ x ∧ x < b + m then 0 else mem.getD x 0 := by
  induction m with
  | zero => rw [if_neg (by omega)]; rfl
  | succ m ih =>
    simp only [clearTo]
    rw [getD_setI _ _ _ _ (by rw [clearTo_len]; omega), ih (by omega)]
    by_cases h1 : x = b + m
    · rw [if_pos h1, if_pos (by omega)]
    · rw [if_neg h1]
      by_cases h2 : b ≤ x ∧ x < b + m
      · rw [if_pos h2, if_pos (by omega)]
      · rw [if_neg h2, if_neg (by omega)]

theorem gsz_fit {size g : Int} (h1 : 1 ≤ size) (h2 : size ≤ 16 * g) : 1 ≤ Ref.gsz size ∧ Ref.gsz size ≤ g := by unfold Ref.gsz; omega

theorem SimB.malloc {G : GSt} {R : RSt} (h : SimB G R) (size draw site : Int) : SimB (mG G R size draw site) (mR R size draw site) := by
  have hsm := sim_malloc h.sim size draw site
  have hv := h.sim.rok.conf
  rcases mOut_cases R h.sim.rok size draw with ⟨_, hm⟩ | ⟨k, _, _, _, _, hm⟩ | ⟨k, s, h1, hk, hkl, hf, hs, hz, hm⟩
  · unfold mG mR; rw [hm]; exact h
  · unfold mG mR; rw [hm]; exact h
  · rw [mG_ok hk hf (by rw [hm]), mR_ok hk hf (by rw [hm])] at hsm ⊢
    have hfit := gsz_fit h1 hz
    have hbe := Cf.begin_end hv k s hkl (by omega)
    have hbb := Cf.begin_bd hv k hkl s (by omega) (by have := hv.s1 k hkl; omega)
    have hmem := h.sim.mem
    rw [h.sim.st] at hmem
    have hin : (Cf.begin_ G.st R.cls k s).toNat + (16 * Ref.gsz size).toNat ≤ G.mem.length := by rw [h.sim.st]; omega
    have hgd := clearTo_getD G.mem (Cf.begin_ G.st R.cls k s).toNat (16 * Ref.gsz size).toNat hin
    refine ⟨hsm, h.marks.event _, fun i hi => ?_, fun addr t1 t2 => ?_, h.fits.snoc _ (fun _ => ⟨hfit.1, by simpa using hfit.2, by have := PickMath.pick_lo (Ref.last R.log k s) (Ref.last R.log k ((s : Int) - 1)) (Ref.last R.log k ((s : Int) + 1)) draw; show (1 : Int) ≤ ((PickMath.pick _ _ _ _ : Nat) : Int); omega, by have := PickMath.pick_hi (Ref.last R.log k s) (Ref.last R.log k ((s : Int) - 1)) (Ref.last R.log k ((s : Int) + 1)) draw; show ((PickMath.pick _ _ _ _ : Nat) : Int) ≤ 14; omega⟩)⟩
    · change i < (clearTo _ _ _).length at hi
      rw [clearTo_len] at hi
      show 0 ≤ (clearTo _ _ _).getD i 0 ∧ (clearTo _ _ _).getD i 0 ≤ 255
      rw [hgd]
      split
      · omega
      · exact h.mem i hi
    · show (clearTo _ _ _).getD addr.toNat 0 = _
      rw [hgd]
      obtain ⟨e, he⟩ : ∃ e : Ref.Ev, e = ⟨false, k, s, Ref.tagOf R.log k s draw, Ref.gsz size, site⟩ := ⟨_, rfl⟩
      rw [← he] at t1 t2 ⊢
      have h16 := hsm.there addr (by rw [← he]; exact t1)
      by_cases hsl : Cf.slot R.st R.cls addr = ((k : Int), (s : Int))
      · have hgv : e.gives (Cf.slot R.st R.cls addr).1 (Cf.slot R.st R.cls addr).2 = true := by rw [hsl, he]; exact (gives_eq _ _ _ k s k s).2 ⟨rfl, rfl⟩
        rw [RSt.byte_gives h.marks e addr (by rw [hsl]; simp) hgv, h.sim.st]
        rw [if_pos]
        have hin2 : Cf.begin_ R.st R.cls k s ≤ addr ∧ addr < Cf.begin_ R.st R.cls k s + 16 * Cf.gr R.cls k := by
          rcases Cf.slot_bd R.st R.cls addr with hx | ⟨k2, s2, hx, _, _, hi⟩
          · rw [hx] at hsl; have := congrArg Prod.fst hsl; simp at this
          · rw [hx] at hsl
            have e1 := congrArg Prod.fst hsl
            have e2 := congrArg Prod.snd hsl
            simp at e1 e2
            obtain rfl : k2 = k := by omega
            obtain rfl : s2 = s := by omega
            simpa only [Cf.inS, Bool.and_eq_true, decide_eq_true_eq] using hi
        have hlt : addr < Cf.begin_ R.st R.cls k s + 16 * Ref.gsz size := by
          by_cases hc : addr < Cf.begin_ R.st R.cls k s + 16 * Ref.gsz size
          · exact hc
          · exfalso
            apply t2
            refine tag_rest (R := ⟨R.st, R.rest, R.cls, R.log ++ [e], R.marks⟩) hv k s hkl hs addr hin2.1 hin2.2 (.inr ?_)
            have hgv2 : e.gives k s = true := by rw [hsl] at hgv; exact hgv
            show Cf.begin_ R.st R.cls k s + 16 * ((R.log ++ [e]).getD (Ref.given (R.log ++ [e]) k s).toNat Ref.Ev.no).size ≤ addr
            rw [size_gives _ _ _ _ hgv2, he]
            show _ + 16 * Ref.gsz size ≤ addr
            omega
        omega
      · have hoth : 0 ≤ (Cf.slot R.st R.cls addr).1 → e.gives (Cf.slot R.st R.cls addr).1 (Cf.slot R.st R.cls addr).2 = false ∧ e.takes (Cf.slot R.st R.cls addr).1 (Cf.slot R.st R.cls addr).2 = false := fun h0 => by
          rcases Cf.slot_bd R.st R.cls addr with hx | ⟨k2, s2, hx, _, _, hi⟩
          · rw [hx] at h0; simp at h0
          · rw [hx] at hsl ⊢
            constructor
            · cases eg : e.gives ((k2 : Int), (s2 : Int)).1 ((k2 : Int), (s2 : Int)).2
              · rfl
              · rw [he] at eg
                have := (gives_eq _ _ _ k s k2 s2).1 eg
                exact absurd (by rw [this.1, this.2]) hsl
            · rw [he]; exact takes_no _ _ _ _ _ _ _
        have hto : RSt.tag ⟨R.st, R.rest, R.cls, R.log ++ [e], R.marks⟩ addr = R.tag addr := tag_other R.st R.cls R.log e addr hoth
        rw [hto] at t1 t2
        rw [RSt.byte_event R e addr (fun h0 => (hoth h0).1), if_neg, h.bytes addr t1 t2]
        intro hc
        apply hsl
        refine slot_at hv k s hkl hs addr ?_ ?_
        · rw [h.sim.st] at hc; omega
        · rw [h.sim.st] at hc; omega

theorem SimB.free {G : GSt} {R : RSt} (h : SimB G R) (k s : Nat) (hk : k < R.cls.length) (hs : s < (Cf.sl R.cls k).toNat) (h3 : Ref.state R.log k s = 3) (site : Int) :
    SimB (G.withSlots k (freed (G.cs.getD k GCls.no).slots s G.rest site)) ⟨R.st, R.rest, R.cls, R.log ++ [⟨true, k, s, 0, 0, site⟩], R.marks⟩ := by
  have hv := h.sim.rok.conf
  refine ⟨h.sim.free k s hk hs h3 site, h.marks.event _, h.mem, fun addr t1 t2 => ?_, h.fits.snoc _ (fun x => by cases x)⟩
  show G.mem.getD addr.toNat 0 = _
  obtain ⟨e, he⟩ : ∃ e : Ref.Ev, e = ⟨true, k, s, 0, 0, site⟩ := ⟨_, rfl⟩
  rw [← he] at t1 t2 ⊢
  have hg : ∀ a b, e.gives a b = false := fun a b => by rw [he]; exact gives_no _ _ _ _ _ _ _
  rw [RSt.byte_event R e addr (fun _ => hg _ _)]
  have hoth : 0 ≤ (Cf.slot R.st R.cls addr).1 → e.gives (Cf.slot R.st R.cls addr).1 (Cf.slot R.st R.cls addr).2 = false ∧ e.takes (Cf.slot R.st R.cls addr).1 (Cf.slot R.st R.cls addr).2 = false := fun h0 => by
    refine ⟨hg _ _, ?_⟩
    rcases Cf.slot_bd R.st R.cls addr with hx | ⟨k2, s2, hx, hk2, hs2, hi⟩
    · rw [hx] at h0; simp at h0
    · rw [hx]
      cases et : e.takes ((k2 : Int), (s2 : Int)).1 ((k2 : Int), (s2 : Int)).2
      · rfl
      · exfalso
        rw [he] at et
        obtain ⟨rfl, rfl⟩ := (takes_eq _ _ _ k s k2 s2).1 et
        simp only [Cf.inS, Bool.and_eq_true, decide_eq_true_eq] at hi
        apply t2
        refine tag_rest (R := ⟨R.st, R.rest, R.cls, R.log ++ [e], R.marks⟩) hv k2 s2 hk2 hs2 addr hi.1 hi.2 (.inl ?_)
        show Ref.state (R.log ++ [e]) k2 s2 ≠ 3
        rw [state_takes R.log e k2 s2 (hg _ _) (by rw [he]; exact et) h3]; decide
  have hto : RSt.tag ⟨R.st, R.rest, R.cls, R.log ++ [e], R.marks⟩ addr = R.tag addr := tag_other R.st R.cls R.log e addr hoth
  rw [hto] at t1 t2
  exact h.bytes addr t1 t2

/-- what Free makes of the program's heap -/
def fG (G : GSt) (R : RSt) (q site : Int) : GSt :=
  if q ≠ 0 ∧ (Ref.block R.st R.cls R.log q).2.2 = 0 then G.withSlots (Ref.block R.st R.cls R.log q).1.toNat (freed (G.cs.getD (Ref.block R.st R.cls R.log q).1.toNat GCls.no).slots (Ref.block R.st R.cls R.log q).2.1.toNat G.rest site) else G
theorem SimB.free_any {G : GSt} {R : RSt} (h : SimB G R) (q site : Int) : SimB (fG G R q site) (fR R q site) := by
  unfold fG fR
  rcases block_cases R.st R.cls R.log q with he | ⟨k, s, he, hk, hsl, h3⟩
  · rw [if_neg (fun x => he x.2), if_neg (fun x => he x.2)]; exact h
  · by_cases hq : q = 0
    · rw [if_neg (fun x => x.1 hq), if_neg (fun x => x.1 hq)]; exact h
    · rw [if_pos ⟨hq, by rw [he]⟩, if_pos ⟨hq, by rw [he]⟩, he]
      exact h.free k s hk hsl h3 site
theorem fG_foot {G : GSt} {R : RSt} (h : Sim G R) (q site : Int) (p : Nat) (gc : Value) (bb b : Nat) : GFoot p gc bb (fG G R q site) b ↔ GFoot p gc bb G b := by
  unfold fG
  rcases block_cases R.st R.cls R.log q with he | ⟨k, s, he, hk, hsl, h3⟩
  · rw [if_neg (fun x => he x.2)]
  · by_cases hq : q = 0
    · rw [if_neg (fun x => x.1 hq)]
    · rw [if_pos ⟨hq, by rw [he]⟩, he]
      exact withSlots_foot G k _ (by rw [h.ok.len]; exact hk) p gc bb b
theorem gfree_st (p : Nat) (gc : Value) (bb : Nat) (G : GSt) (R : RSt) (q site : Int) (w : World) (h : GRep w p gc bb G) (hs : Sim G R) (q1 : q ≤ 9223372036854775807) :
    Calls Try.prog 94 #[.pointer (some ⟨p, 0, none⟩), .int .i64 q, .int .i64 site] w fun e w' => e = .returned (.int .i64 (fOut R q)) ∧ GRep w' p gc bb (fG G R q site) ∧ Kept w w' (GFoot p gc bb G) := by
  refine (gfree_all p gc bb G R q site w h hs q1).mono ?_
  rintro e w' ⟨rfl, hk, hc⟩
  unfold fDoes at hc
  refine ⟨rfl, ?_, hk⟩
  unfold fG
  rcases hc with ⟨hd, hR⟩ | ⟨k, s, hd, hb, _, _, _, hR⟩
  · rw [if_neg hd]; exact hR
  · rw [if_pos hd, hb]; exact hR
end Go.Proofs.Ytjikemhmnkckcaa
/- The program's Usable and Realloc. -/
namespace Go.Proofs.Ytjikemhmnkckcaa
open Go.RowKit

/-- what is read of a slot -/
theorem GRep.slotBytes {w : World} {p : Nat} {vc : Value} {bb : Nat} {G : GSt} (h : GRep w p vc bb G) (k s : Nat) (hk : k < G.cs.length) (hs : s < (G.cs.getD k GCls.no).slots.length) :
    ∃ g cap, vc = .slice (some ⟨g, 0, none⟩) G.cs.length cap ∧ cap ≤ maxLen ∧ g < w.heap.size ∧ w.cell? ⟨p, 2, none⟩ = some vc ∧
      w.cell? ⟨g, k * 3 + 2, none⟩ = some (.slice (some ⟨(G.cs.getD k GCls.no).sb, 0, none⟩) (G.cs.getD k GCls.no).slots.length (G.cs.getD k GCls.no).slots.length) ∧
      w.cell? ⟨(G.cs.getD k GCls.no).sb, s * 6 + 2, none⟩ = some (.int .i64 (slotOf G k s).bytes) := by
  obtain ⟨ac, cap, rfl, hcap, hmax, hrow⟩ := row_open h.cls
  obtain ⟨g, rfl, hgl, hcell, _⟩ := hrow (by omega)
  exact ⟨g, cap, rfl, hmax, hgl, h.blk.cell (j := 2) rfl, (gcls_cells hcell k hk).2.2, (slot_cells (h.slots k hk) s hs).2.2.1⟩

theorem Sim.slotBytes {G : GSt} {R : RSt} (h : Sim G R) (k s : Nat) (hk : k < R.cls.length) (hs : s < (Cf.sl R.cls k).toNat) (hg : 0 ≤ Ref.given R.log k s) : (slotOf G k s).bytes = 16 * (R.log.getD (Ref.given R.log k s).toNat Ref.Ev.no).size := (h.slots k s hk hs).bytes hg
theorem live_given {log : List Ref.Ev} {k s : Int} (h : Ref.state log k s = 3) : 0 ≤ Ref.given log k s := by
  rcases state_of log k s with x | x | x <;> omega

set_option maxRecDepth 100000 in
set_option maxHeartbeats 1600000 in
theorem gusable_any (p : Nat) (vc : Value) (bb : Nat) (G : GSt) (R : RSt) (q : Int) (w : World) (h : GRep w p vc bb G) (hs : Sim G R) (q1 : q ≤ 9223372036854775807) :
    Calls Try.prog 56 #[.pointer (some ⟨p, 0, none⟩), .int .i64 q] w fun e w' => e = .returned (.tuple #[.int .i64 (R.usable q).1, .int .i64 (R.usable q).2]) ∧ Below w.heap.size w w' := by
  have HR := hide2 h
  have HS := hide2 hs
  have HBL := hide2 (hs.block q)
  rcases block_cases R.st R.cls R.log q with he | ⟨k, s, he, hk, hsl, h3⟩
  · have HF : Hid (R.usable q = (0, (Ref.block R.st R.cls R.log q).2.2)) := if_pos he
    have heb : ((Ref.block R.st R.cls R.log q).2.2 != 0) = true := by simp [he]
    clear h hs he
    go_enter Try.func56, Try.ntmps56
    go_wp2_with (go_at_call 71; refine (blockOf_all p vc bb G R.rest R.cls q w HR.out HS.out.ok q1).mono ?_; rw [HBL.out]; rintro e1 w1 ⟨rfl, hb1⟩)
    go_ret2
    exact ⟨by rw [HF.out]; rfl, hb1⟩
  · have hgv := live_given h3
    have hkl : k < G.cs.length := by rw [hs.ok.len]; exact hk
    have hsl2 : s < (G.cs.getD k GCls.no).slots.length := by rw [hs.len hk]; exact hsl
    have HF : Hid (R.usable q = ((slotOf G k s).bytes, 0)) := by
      show _ = _
      unfold RSt.usable
      rw [he, if_neg (by simp), hs.slotBytes k s hk hsl hgv]
    have HE := hide2 he
    have hp := h.blk.lt
    have hsb := (h.slots k hkl).lt
    obtain ⟨g, cap, rfl, hmax, hgl, c2, d2, x2⟩ := h.slotBytes k s hkl hsl2
    unfold maxLen at hmax
    have hl4 : G.cs.length ≤ 4 := by have := hs.ok.conf.n1; have := hs.ok.len; omega
    have hx16 : (G.cs.getD k GCls.no).slots.length ≤ 16 := by have := hs.ok.sl k hk; have := hs.ok.conf.s1 k hk; omega
    have hkI : (k : Int) < (G.cs.length : Int) := by omega
    have hsI : (s : Int) < ((G.cs.getD k GCls.no).slots.length : Int) := by omega
    generalize (G.cs.getD k GCls.no).sb = sb at *
    generalize (G.cs.getD k GCls.no).slots = xs at *
    generalize (slotOf G k s).bytes = by_ at *
    clear h hs he h3 hgv hsl
    go_enter Try.func56, Try.ntmps56
    go_wp2_with fail
    refine (blockOf_all p _ bb G R.rest R.cls q w HR.out HS.out.ok q1).mono ?_
    rw [HBL.out, HE.out]
    rintro e1 w1 ⟨rfl, hb1⟩
    have c2' := (hb1.cell (p := ⟨p, 2, none⟩) hp).trans c2
    have d2' := (hb1.cell (p := ⟨g, k * 3 + 2, none⟩) hgl).trans d2
    have x2' := (hb1.cell (p := ⟨sb, s * 6 + 2, none⟩) hsb).trans x2
    clear c2 d2 x2
    go_wp2
    go_ret2
    exact ⟨by rw [HF.out]; rfl, hb1⟩
end Go.Proofs.Ytjikemhmnkckcaa
