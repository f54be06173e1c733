import Derived.Test.YtjikemhmnkckcaaJ37
import Derived.Deep.RegionHeld3
import Derived.Test.YtjikemhmnkckcaaJ9
import Derived.Test.YtjikemhmnkckcaaJ6
import Derived.Test.YtjikemhmnkckcaaJ21
/- One step of the book: Malloc. -/
namespace Go.Proofs.Ytjikemhmnkckcaa
open Go.RowKit

/-- the book after at most n steps, over the world w0 in which the arguments lie -/
def KIn (w0 w : World) (pb n : Nat) : Prop := ∃ ph gc bb G R vc vL vF B, KRep w pb ph gc bb G vc vL vF B ∧ KOk B G R ∧ B.L.length ≤ n ∧ B.F.length ≤ n ∧ 0 ≤ B.now ∧ B.now ≤ n ∧ Below w0.heap.size w0 w ∧ ∀ b, KFoot pb ph gc bb G vc vL vF B.L b → w0.heap.size ≤ b
theorem KIn.below {w0 w w' : World} {pb n : Nat} (h : KIn w0 w pb n) (hb : Below w.heap.size w w') : KIn w0 w' pb n := by
  obtain ⟨ph, gc, bb, G, R, vc, vL, vF, B, h1, h2, h3, h4, h5, h6, h7, h8⟩ := h
  exact ⟨ph, gc, bb, G, R, vc, vL, vF, B, h1.below hb, h2, h3, h4, h5, h6, h7.trans (hb.mono h7.size), h8⟩

theorem KFoot.glt {pb ph : Nat} {gc : Value} {bb : Nat} {G G' : GSt} {vc vL vF : Value} {L : List KBlk} (hf : ∀ b, GFoot ph gc bb G' b ↔ GFoot ph gc bb G b) {b : Nat} (h : KFoot pb ph gc bb G' vc vL vF L b) : KFoot pb ph gc bb G vc vL vF L b := by
  rcases h with h | h | h | h | h | h
  · exact .inl h
  · exact .inr (.inl h)
  · exact .inr (.inr (.inl ((hf b).1 h)))
  · exact .inr (.inr (.inr (.inl h)))
  · exact .inr (.inr (.inr (.inr (.inl h))))
  · exact .inr (.inr (.inr (.inr (.inr h))))

/-- the three cases of Malloc, for the book -/
theorem KOk.cases {B : KSt} {G : GSt} {R : RSt} (h : KOk B G R) (size draw : Int) :
    (∃ e : Int, e ≠ 0 ∧ mOut R size draw = (0, e)) ∨
    (∃ k s : Nat, 1 ≤ size ∧ Ref.cls_ R.cls size = k ∧ k < R.cls.length ∧ Ref.first R.log R.rest R.cls k = (s : Int) ∧ s < (Cf.sl R.cls k).toNat ∧ size ≤ 16 * Cf.gr R.cls k ∧
      mOut R size draw = ((Ref.tagOf R.log k s draw : Int) * 72057594037927936 + Cf.begin_ R.st R.cls k s, 0) ∧ 1 ≤ Ref.tagOf R.log k s draw ∧ Ref.tagOf R.log k s draw ≤ 14 ∧ gcls B.cls size = (k : Int) ∧ klive B.L k s = false ∧ krests B.F B.rest k s = false) := by
  rcases mOut_cases R h.simb.sim.rok size draw with ⟨_, hm⟩ | ⟨k, _, _, _, _, hm⟩ | ⟨k, s, h1, hk, hkl, hf, hs, hz, hm⟩
  · exact .inl ⟨3, by decide, hm⟩
  · exact .inl ⟨4, by decide, hm⟩
  · right
    have hat := Ref.firstFrom_at (Ref.openB R.log R.rest k) (Cf.sl R.cls k).toNat 0 (by change 0 ≤ Ref.first R.log R.rest R.cls k; omega)
    have ho := hat.2
    change Ref.openB R.log R.rest k (Ref.first R.log R.rest R.cls k).toNat = true at ho
    rw [hf, Int.toNat_natCast] at ho
    obtain ⟨c1, c2, _, _⟩ := h.chosen k s ho
    exact ⟨k, s, h1, hk, hkl, hf, hs, hz, hm, PickMath.pick_lo _ _ _ _, PickMath.pick_hi _ _ _ _, by rw [h.cls]; unfold gcls; rw [if_neg (by omega), hk], c1, c2⟩

/-- came, whatever Malloc said -/
theorem kcame_any (pb ph : Nat) (gc : Value) (bb : Nat) (G G1 : GSt) (R : RSt) (vc vL vF : Value) (B : KSt) (size draw : Int) (w : World) (h : KRep w pb ph gc bb G1 vc vL vF B) (hok : KOk B G R) (hlen : B.L.length ≤ 2000000) :
    Calls Try.prog 30 #[.pointer (some ⟨pb, 0, none⟩), .int .i64 (mOut R size draw).1, .int .i64 (mOut R size draw).2, .int .i64 size] w fun e w' => e = .returned (.bool true) ∧
      (((mOut R size draw).2 ≠ 0 ∧ w = w') ∨ ∃ (vL' : Value) (wb k s : Nat), 1 ≤ size ∧ Ref.cls_ R.cls size = k ∧ k < R.cls.length ∧ Ref.first R.log R.rest R.cls k = (s : Int) ∧ s < (Cf.sl R.cls k).toNat ∧ size ≤ 16 * Cf.gr R.cls k ∧
        mOut R size draw = ((Ref.tagOf R.log k s draw : Int) * 72057594037927936 + Cf.begin_ R.st R.cls k s, 0) ∧
        KRep w' pb ph gc bb G1 vc vL' vF ⟨B.st, B.rest, B.cls, B.L ++ [⟨(Ref.tagOf R.log k s draw : Int) * 72057594037927936 + Cf.begin_ R.st R.cls k s, k, s, List.replicate (16 * Ref.gsz size).toNat 0, wb, true, B.now, 0⟩], B.F, B.now⟩ ∧
        Kept w w' (fun b => b = pb ∨ vL.ownBlock = some b) ∧ (∀ b, vL'.ownBlock = some b → vL.ownBlock = some b ∨ w.heap.size ≤ b) ∧ w.heap.size ≤ wb) := by
  rcases hok.cases size draw with ⟨e, he, hm⟩ | ⟨k, s, h1, hk, hkl, hf, hs, hz, hm, t0, t1, hg, c1, c2⟩
  · rw [hm]
    refine (kcame_no pb e size w he).mono ?_
    rintro e' w' ⟨rfl, rfl⟩
    exact ⟨rfl, .inl ⟨he, rfl⟩⟩
  · have hv : Cf.Valid B.st B.rest B.cls := by rw [hok.st, hok.rest, hok.cls]; exact hok.simb.sim.rok.conf
    have hc := kcame_yes pb ph gc bb G1 vc vL vF B size k s (Ref.tagOf R.log k s draw) w h hv hg (by rw [hok.cls]; exact hkl) (by rw [hok.cls]; exact hs) t0 t1 h1 (by rw [hok.cls]; exact hz) c1 c2 (by omega)
    rw [hm]
    have e1 : Cf.begin_ B.st B.cls k s = Cf.begin_ R.st R.cls k s := by rw [hok.st, hok.cls]
    rw [e1] at hc
    refine hc.mono ?_
    rintro e' w' ⟨vL', wb, rfl, hK, hk2, hn, hwb⟩
    exact ⟨rfl, .inr ⟨vL', wb, k, s, h1, hk, hkl, hf, hs, hz, rfl, hK, hk2, hn, hwb⟩⟩
end Go.Proofs.Ytjikemhmnkckcaa
/- The book's configuration: fit. -/
namespace Go.Proofs.Ytjikemhmnkckcaa
open Go.RowKit

/-- class i of the fitted configuration, if the one ahead has 'last' granules -/
def kfitG (cls : List (Int × Int)) (n i : Nat) (last : Int) : Int := last + 1 + kpick (wrap64 (wrap64 (Cf.gr cls i - last) - 1)) (8 - last - ((n : Int) - 1 - i))
def kfitS (cls : List (Int × Int)) (i : Nat) : Int := 1 + kpick (wrap64 (Cf.sl cls i - 1)) 16
def kfitTo (cls : List (Int × Int)) (n : Nat) : Nat → List (Int × Int) × Int
  | 0 => ([], 0)
  | i + 1 => ((kfitTo cls n i).1 ++ [(kfitG cls n i (kfitTo cls n i).2, kfitS cls i)], kfitG cls n i (kfitTo cls n i).2)
def kfitN (cls : List (Int × Int)) : Nat := if 4 < cls.length then 4 else cls.length
def kfit (cls : List (Int × Int)) : List (Int × Int) := if kfitN cls = 0 then [(1, 1)] else (kfitTo cls (kfitN cls) (kfitN cls)).1

theorem kfitTo_bd (cls : List (Int × Int)) (n : Nat) (hn : n ≤ 4) (i : Nat) (hi : i ≤ n) : 0 ≤ (kfitTo cls n i).2 ∧ (i : Int) ≤ (kfitTo cls n i).2 ∧ (kfitTo cls n i).2 ≤ 8 - ((n : Int) - i) ∧ (kfitTo cls n i).1.length = i := by
  induction i with
  | zero => simp [kfitTo]; omega
  | succ i ih =>
    obtain ⟨h1, h2, h3, h4⟩ := ih (by omega)
    have hb := kpick_bd (wrap64 (wrap64 (Cf.gr cls i - (kfitTo cls n i).2) - 1)) (8 - (kfitTo cls n i).2 - ((n : Int) - 1 - i)) (by omega)
    simp only [kfitTo]
    unfold kfitG
    refine ⟨by omega, by omega, by omega, by simp [h4]⟩
theorem kfitTo_at (cls : List (Int × Int)) (n : Nat) (hn : n ≤ 4) (i : Nat) (hi : i ≤ n) (j : Nat) (hj : j < i) : Cf.gr (kfitTo cls n i).1 j = kfitG cls n j (kfitTo cls n j).2 ∧ Cf.sl (kfitTo cls n i).1 j = kfitS cls j := by
  induction i with
  | zero => omega
  | succ i ih =>
    have hl := (kfitTo_bd cls n hn i (by omega)).2.2.2
    have hg : ∀ d, (kfitTo cls n (i + 1)).1.getD j d = if j = i then (kfitG cls n i (kfitTo cls n i).2, kfitS cls i) else (kfitTo cls n i).1.getD j d := fun d => by
      simp only [kfitTo]
      by_cases e : j = i
      · rw [if_pos e]; subst e
        rw [List.getD_eq_getElem?_getD, List.getElem?_append_right (by omega)]; simp [hl]
      · rw [if_neg e, List.getD_eq_getElem?_getD, List.getElem?_append_left (by omega), ← List.getD_eq_getElem?_getD]
    by_cases e : j = i
    · subst e
      unfold Cf.gr Cf.sl
      rw [hg, if_pos rfl]
      exact ⟨rfl, rfl⟩
    · have := ih (by omega) (by omega)
      unfold Cf.gr Cf.sl at this ⊢
      rw [hg, if_neg e]
      exact this
theorem kfit_valid (st rest : Int) (cls : List (Int × Int)) (s0 : 0 ≤ st) (s1 : st ≤ 16) (r0 : 0 ≤ rest) (r1 : rest ≤ 16) : Cf.Valid st rest (kfit cls) := by
  unfold kfit
  by_cases h : kfitN cls = 0
  · rw [if_pos h]
    have e0 : ∀ i, i < ([((1 : Int), (1 : Int))] : List (Int × Int)).length → i = 0 := fun i hi => by
      change i < 1 at hi; omega
    refine ⟨s0, s1, r0, r1, by simp, by simp, fun i hi => ?_, fun i hi => ?_, fun i hi => ?_, fun i hi => ?_, fun i j hi hj => ?_⟩
    · rw [e0 i hi]; simp [Cf.gr]
    · rw [e0 i hi]; simp [Cf.gr]
    · rw [e0 i hi]; simp [Cf.sl]
    · rw [e0 i hi]; simp [Cf.sl]
    · have := e0 i hi; omega
  · rw [if_neg h]
    have hn : kfitN cls ≤ 4 := by unfold kfitN; split <;> omega
    generalize hN : kfitN cls = n at *
    have hb := kfitTo_bd cls n hn
    have hlen := (hb n (Nat.le_refl _)).2.2.2
    have key : ∀ i, i < n → Cf.gr (kfitTo cls n n).1 i = (kfitTo cls n (i + 1)).2 ∧ Cf.sl (kfitTo cls n n).1 i = kfitS cls i := fun i hi => by
      have := kfitTo_at cls n hn n (Nat.le_refl _) i hi
      exact ⟨this.1, this.2⟩
    have hs : ∀ i, 1 ≤ kfitS cls i ∧ kfitS cls i ≤ 16 := fun i => by
      have := kpick_bd (wrap64 (Cf.sl cls i - 1)) 16 (by omega)
      unfold kfitS; omega
    have hmono : ∀ i, i < n → (kfitTo cls n i).2 < (kfitTo cls n (i + 1)).2 := fun i hi => by
      have h0 := hb i (by omega)
      have hk := kpick_bd (wrap64 (wrap64 (Cf.gr cls i - (kfitTo cls n i).2) - 1)) (8 - (kfitTo cls n i).2 - ((n : Int) - 1 - i)) (by omega)
      show _ < kfitG cls n i (kfitTo cls n i).2
      unfold kfitG; omega
    have hup : ∀ i j, j < i → i < n → (kfitTo cls n (j + 1)).2 < (kfitTo cls n (i + 1)).2 := by
      intro i
      induction i with
      | zero => intro j hj _; omega
      | succ i ih =>
        intro j hj hi
        have h1 := hmono (i + 1) hi
        by_cases e : j = i
        · subst e; exact h1
        · have := ih j (by omega) (by omega); omega
    refine ⟨s0, s1, r0, r1, by omega, by omega, fun i hi => ?_, fun i hi => ?_, fun i hi => ?_, fun i hi => ?_, fun i j hi hj => ?_⟩
    · rw [hlen] at hi; rw [(key i hi).1]; have := hb (i + 1) (by omega); omega
    · rw [hlen] at hi; rw [(key i hi).1]; have := hb (i + 1) (by omega); omega
    · rw [hlen] at hi; rw [(key i hi).2]; exact (hs i).1
    · rw [hlen] at hi; rw [(key i hi).2]; exact (hs i).2
    · rw [hlen] at hi; rw [(key i hi).1, (key j (by omega)).1]; exact hup i j hj hi
end Go.Proofs.Ytjikemhmnkckcaa
namespace Go.Proofs.Ytjikemhmnkckcaa
open Go.RowKit
attribute [local go_sem ↓] Go.wp_at_zero Go.wp_at_succ

/-- the block of fit's result, within its loop -/
structure FitRes (wr : World) (rb : Nat) (v : Value) : Prop where
  blk : Blk wr rb 24 [.int .i64 0, .int .i64 0, .slice none 0 0]
  ne : ∀ g, v.ownBlock = some g → g ≠ rb
theorem FitRes.step {wr w2 : World} {rb ob gg n cap2 : Nat} {v x : Value} {cs : Array Value} {t : TypeId} (h : FitRes wr rb v) (ho : ob ≠ rb) (hgrow : (wr.alloc (.cells cs t)).grownBy w2 v.ownBlock) (hat : v.ownBlock = some gg ∨ gg = wr.heap.size + 1) :
    FitRes (w2.setCell ⟨ob, 2, none⟩ x) rb (.slice (some ⟨gg, 0, none⟩) n cap2) := by
  have hl := h.blk.lt
  refine ⟨?_, ?_⟩
  · have e1 := hgrow.block rb (by simp; omega) (fun e => h.ne _ e.symm rfl)
    have e2 : (wr.alloc (.cells cs t)).heap[rb]? = wr.heap[rb]? := Below.heap_alloc wr _ rb hl
    have e3 := Below.heap_setCell w2 ⟨ob, 2, none⟩ x rb (fun e => ho e.symm)
    exact ((e3.trans e1).trans e2).trans h.blk
  · intro g hg
    simp [Value.ownBlock] at hg
    subst hg
    rcases hat with h1 | h1
    · exact h.ne _ h1
    · omega

set_option maxRecDepth 100000 in
set_option maxHeartbeats 3200000 in
theorem kfit_small (st rest : Int) (a : Option Addr) (cap : Nat) (cls : List (Int × Int)) (w : World) (h : CRow w a cap cls) (h0 : 0 < cls.length) (h4 : cls.length ≤ 4) (b0 : -9223372036854775808 ≤ st) (b1 : st ≤ 9223372036854775807) (b2 : -9223372036854775808 ≤ rest) (b3 : rest ≤ 9223372036854775807) :
    Calls Try.prog 54 #[.agg #[.int .i64 st, .int .i64 rest, .slice a cls.length cap]] w fun e w' => ∃ v, e = .returned (.agg #[.int .i64 (kpick st 17), .int .i64 (kpick rest 17), v]) ∧
      w'.ownsRow 0 67 2 v (kfit cls).length ((kfit cls).flatMap clsCells) ∧ Below w.heap.size w w' ∧ ∀ g, v.ownBlock = some g → w.heap.size ≤ g := by
  have HC := hide2 h
  obtain ⟨g, off, rfl, hgl, hcell⟩ := h.cells h0
  obtain ⟨i0, hi0, hz0, hz1, hz2⟩ := info_parts info_cls
  have hlen := h.len
  have hcap := h.cap
  unfold maxLen at hcap
  have HCL := hide2 hcell
  have h4' : ¬ (4 : Int) < (cls.length : Int) := by omega
  clear h hcell
  go_enter Try.func54, Try.ntmps54
  go_wp2_with fail
  obtain ⟨wa, hwa⟩ : ∃ wa, wa = ((w.alloc (.cells #[.int .i64 st, .int .i64 rest, .slice (some ⟨g, off, none⟩) cls.length cap] 24)).alloc (.cells #[.int .i64 0, .int .i64 0, .slice none 0 0] 24)) := ⟨_, rfl⟩
  rw [← hwa]
  have c0 : wa.cell? ⟨w.heap.size, 0, none⟩ = some (.int .i64 st) := by rw [hwa, World.cell?_alloc_lt _ _ _ (by show w.heap.size < _; simp)]; exact World.cell?_alloc_new _ _ _ _
  have c1 : wa.cell? ⟨w.heap.size, 1, none⟩ = some (.int .i64 rest) := by rw [hwa, World.cell?_alloc_lt _ _ _ (by show w.heap.size < _; simp)]; exact World.cell?_alloc_new _ _ _ _
  have c2 : wa.cell? ⟨w.heap.size, 2, none⟩ = some (.slice (some ⟨g, off, none⟩) cls.length cap) := by rw [hwa, World.cell?_alloc_lt _ _ _ (by show w.heap.size < _; simp)]; exact World.cell?_alloc_new _ _ _ _
  have HBA : Hid (Below w.heap.size w wa) := by show Below _ _ _; rw [hwa]; exact ((Below.refl _ _).alloc (Nat.le_refl _) _).alloc (by simp) _
  have HFA : Hid (Blk wa (w.heap.size + 1) 24 [.int .i64 0, .int .i64 0, .slice none 0 0]) := by
    show Blk _ _ _ _
    rw [hwa]
    have := Blk.alloc (w.alloc (.cells #[.int .i64 st, .int .i64 rest, .slice (some ⟨g, off, none⟩) cls.length cap] 24)) 24 [.int .i64 0, .int .i64 0, .slice none 0 0]
    rwa [World.size_alloc] at this
  have HSA : Hid (wa.heap.size = w.heap.size + 2) := by show _ = _; rw [hwa]; simp
  have hsa : w.heap.size < wa.heap.size := by rw [HSA.out]; omega
  clear hwa
  refine (fun (key : Unit → ?T) => ?region) (fun _ => ?pf)
  case region =>
    go_region_held3 (fun w' => w'.cell? ⟨w.heap.size, 0, none⟩ = some (.int .i64 st) ∧ w'.cell? ⟨w.heap.size, 1, none⟩ = some (.int .i64 rest)) (go_keep)
      (first | (go_at_call 28; refine (kpick_any _ _ _ (by omega) (by omega) (by omega)).mono ?_; rintro e1 w1 ⟨rfl, rfl⟩))
    all_goals exact key ()
  generalize hst : kpick st 17 = st'
  generalize hrs : kpick rest 17 = rest'
  obtain ⟨wf, hwf⟩ : ∃ wf, wf = (wa.alloc (.cells #[.int .i64 st', .int .i64 rest', .slice none 0 0] 24)).drew := ⟨_, rfl⟩
  rw [← hwf]
  have e2 : wf.cell? ⟨w.heap.size, 2, none⟩ = some (.slice (some ⟨g, off, none⟩) cls.length cap) := by rw [hwf, World.cell?_drew, World.cell?_alloc_lt _ _ _ hsa]; exact c2
  have HR0 : Hid (NewRel w st' rest' (kfitTo cls cls.length cls.length).1 w.heap.size wa.heap.size (.slice (some ⟨g, off, none⟩) cls.length cap) 0 (.slice none 0 0) wf) := by
    show NewRel _ _ _ _ _ _ _ _ _ _
    refine ⟨?_, Nat.le_refl _, e2, ?_, by omega, by omega, ?_, ?_, ?_⟩
    · rw [hwf]; exact ((HBA.out.alloc HBA.out.size _).drew)
    · rw [hwf, World.size_drew, World.size_alloc]; omega
    · rw [hwf]; exact Blk.alloc _ _ _
    · simpa using World.ownsRow_nil _ _ _ _
    · intro g h; cases h
  have HF0 : Hid (FitRes wf (w.heap.size + 1) (.slice none 0 0)) := by
    show FitRes _ _ _
    refine ⟨?_, fun g h => by cases h⟩
    rw [hwf]
    exact (Below.heap_alloc wa _ _ (by rw [HSA.out]; omega) : _).trans HFA.out
  clear hwf c0 c1 c2
  have HNE : Hid (∃ N : Nat, N = cls.length) := ⟨_, rfl⟩
  go_wp2_with fail
  go_loopw [5, 6] (fun x i wr => ∃ (m : Nat) (v : Value), m ≤ cls.length ∧ i = .int .i64 (m : Int) ∧ x = .int .i64 (kfitTo cls cls.length m).2 ∧ NewRel w st' rest' (kfitTo cls cls.length cls.length).1 w.heap.size wa.heap.size (.slice (some ⟨g, off, none⟩) cls.length cap) m v wr ∧ FitRes wr (w.heap.size + 1) v) (fun _ i _ => cls.length - (intOf i).toNat)
  case atStart => exact ⟨0, _, by omega, rfl, rfl, HR0.out, HF0.out⟩
  case round =>
    obtain ⟨m, v, hm, rfl, rfl, hr, hfr⟩ := hrel
    have HFR := hide2 hfr
    have r2 := hr.pbc
    have HRR := hide2 hr
    by_cases hlt : m < cls.length
    · obtain ⟨d0, d1⟩ := HCL.out m hlt
      have d0' := (hr.below.cell (p := ⟨g, off + m * 2, none⟩) hgl).trans d0
      have d1' := (hr.below.cell (p := ⟨g, off + m * 2 + 1, none⟩) hgl).trans d1
      have o2 := hr.obk.cell (j := 2) rfl
      have of2 := hr.obk.frozen 2
      have obl := hr.obk.lt
      have pbl := hr.pbl
      have hsz := hr.below.size
      have x0 : (0 : Int) ≤ (m : Int) := by omega
      have x1 : (m : Int) < (cls.length : Int) := by omega
      have HTO := hide2 (kfitTo_at cls cls.length h4 cls.length (Nat.le_refl _) m hlt)
      have hbd := kfitTo_bd cls cls.length h4 m (by omega)
      obtain ⟨l0, l1, l2, _⟩ := hbd
      have HGD : Hid (kfitG cls cls.length m (kfitTo cls cls.length m).2 = (kfitTo cls cls.length m).2 + 1 + kpick (wrap64 (wrap64 (Cf.gr cls m - (kfitTo cls cls.length m).2) - 1)) (8 - (kfitTo cls cls.length m).2 - ((cls.length : Int) - 1 - m))) := rfl
      have HSD : Hid (kfitS cls m = 1 + kpick (wrap64 (Cf.sl cls m - 1)) 16) := rfl
      have HNX : Hid ((kfitTo cls cls.length (m + 1)).2 = kfitG cls cls.length m (kfitTo cls cls.length m).2) := rfl
      have hrow := hide2 hr.row
      have vlo := hide2 hr.vlo
      generalize (kfitTo cls cls.length m).2 = last at *
      generalize Cf.gr cls m = x at *
      generalize Cf.sl cls m = y at *
      clear d0 d1 hr hfr e2
      go_wp2_with fail
      have hz1' := wrap64_bd (wrap64 (x - last) - 1)
      have hz2' := wrap64_bd (y - 1)
      refine (kpick_any _ _ _ (by omega) (by omega) (by omega)).mono ?_
      rintro e1 w1 ⟨rfl, rfl⟩
      have hk1 := kpick_bd (wrap64 (wrap64 (x - last) - 1)) (8 - last - ((cls.length : Int) - 1 - m)) (by omega)
      generalize kpick (wrap64 (wrap64 (x - last) - 1)) (8 - last - ((cls.length : Int) - 1 - m)) = kg at *
      have hk2 := kpick_bd (wrap64 (y - 1)) 16 (by omega)
      go_wp2_with fail
      refine (kpick_any _ _ _ (by omega) (by omega) (by omega)).mono ?_
      rintro e1 w1 ⟨rfl, rfl⟩
      generalize kpick (wrap64 (y - 1)) 16 = ks at *
      generalize hgx : last + 1 + kg = gx at *
      have HX : Hid (Cf.gr (kfitTo cls cls.length cls.length).1 m = gx ∧ Cf.sl (kfitTo cls cls.length cls.length).1 m = 1 + ks) := ⟨by rw [HTO.out.1, HGD.out], by rw [HTO.out.2, HSD.out]⟩
      have HNX2 : Hid ((kfitTo cls cls.length (m + 1)).2 = gx) := by show _ = _; rw [HNX.out, HGD.out]
      clear hgx HGD HSD HNX HTO d0' d1' hz1' hz2' hk1
      go_wp2_with (at_builtin; refine wpList_append_lies _ rfl _ _ _ rfl 0 67 i0 _ 2 16 Try.underlying22 hi0 hz0 hz1 hz2 rfl (by omega) v m (((kfitTo cls cls.length cls.length).1.take m).flatMap clsCells) rfl (hrow.out.alloc _) ⟨wr.heap.size, 0, none⟩ 1 1 [.int .i64 gx, .int .i64 (1 + ks)] rfl rfl (World.news_of_block (cs := #[.int .i64 gx, .int .i64 (1 + ks)]) (t := 67) (fr := (0, 0)) (heap_alloc_new wr _)) (by simp [Value.oneCell']) (by omega) (by simp [maxLen]; omega) (by omega) (by simp) (wr.heap.size + 1) (by simp) ?_; intro gg cap2 w2 hown1 hgrow hat hlt2; have o2' : w2.cell? ⟨wa.heap.size, 2, none⟩ = some v := (by rw [hgrow.cell_far _ (by simp; omega) (fun e => (vlo.out _ e.symm).2.2 rfl), World.cell?_alloc_lt _ _ _ obl]; exact o2); have of2' : w2.frozen? ⟨wa.heap.size, 2, none⟩ = false := (by rw [hgrow.frozen_far _ (by simp; omega) (fun e => (vlo.out _ e.symm).2.2 rfl), World.frozen?_alloc_old _ _ _ (by show wa.heap.size ≠ _; omega)]; exact of2))
      go_roundw
      case rel => exact ⟨m + 1, _, by omega, by go_num, by rw [HNX2.out], HRR.out.step (by have := (kfitTo_bd cls cls.length h4 cls.length (Nat.le_refl _)).2.2.2; omega) HX.out hown1 (show (World.drew _).grownBy _ _ from ⟨hgrow.os, hgrow.tape, hgrow.output, hgrow.size, hgrow.block⟩) hat, HFR.out.step (by rw [HSA.out]; omega) hgrow hat⟩
      case measure => simp [intOf]; omega
    · obtain rfl : m = cls.length := by omega
      obtain ⟨a2, cap2, rfl, -⟩ := row_open HRR.out.row
      have o0 := hr.obk.cell (j := 0) rfl
      have o1 := hr.obk.cell (j := 1) rfl
      have o2 := hr.obk.cell (j := 2) rfl
      have hnz : ¬ ((cls.length : Int) = 0) := by omega
      have p0 := hfr.blk.cell (j := 0) rfl
      have p1 := hfr.blk.cell (j := 1) rfl
      have p2 := hfr.blk.cell (j := 2) rfl
      have f0 := hfr.blk.frozen 0
      have f1 := hfr.blk.frozen 1
      have f2 := hfr.blk.frozen 2
      clear hr hfr e2
      go_wp2
      have hN : kfitN cls = cls.length := by unfold kfitN; rw [if_neg (by omega)]
      have hF : kfit cls = (kfitTo cls cls.length cls.length).1 := by unfold kfit; rw [hN, if_neg (by omega)]
      have hl := (kfitTo_bd cls cls.length h4 cls.length (Nat.le_refl _)).2.2.2
      have hrw := HRR.out.row
      have ht : (kfitTo cls cls.length cls.length).1.take cls.length = (kfitTo cls cls.length cls.length).1 := List.take_of_length_le (by omega)
      rw [ht] at hrw
      have hge : w.heap.size ≤ w.heap.size + 1 := Nat.le_succ _
      refine bodyPost_ret (v := .agg #[.int .i64 st', .int .i64 rest', .slice a2 cls.length cap2]) (by simp [results, Try.results54, go_sem, p0, p1, p2]) rfl ⟨_, by rw [hst, hrs], ?_, ((HRR.out.below.setCell (p := ⟨w.heap.size + 1, 0, none⟩) hge _).setCell (p := ⟨w.heap.size + 1, 1, none⟩) hge _).setCell (p := ⟨w.heap.size + 1, 2, none⟩) hge _, fun g hg => (HRR.out.vlo g hg).1⟩
      rw [hF, hl]
      refine row_kept hrw (fun g hg => ?_)
      have hne := HFR.out.ne g hg
      rw [Below.heap_setCell _ _ _ g (by show g ≠ w.heap.size + 1; exact hne), Below.heap_setCell _ _ _ g (by show g ≠ w.heap.size + 1; exact hne), Below.heap_setCell _ _ _ g (by show g ≠ w.heap.size + 1; exact hne)]
end Go.Proofs.Ytjikemhmnkckcaa
