import Derived.Test.YtjikemhmnkckcabJ9
import Derived.Test.YtjikemhmnkckcabJ13
import Derived.Test.YtjikemhmnkckcabJ11
/- The statement's own book: pick, begin, spot, class, whole. -/
namespace Go.Proofs.Ytjikemhmnkckcab
open Go.RowKit

def kpick (c n : Int) : Int := (if c < 0 then -(c + 1) else c) % n
theorem kpick_bd (c n : Int) (hn : 0 < n) : 0 ≤ kpick c n ∧ kpick c n < n := by
  unfold kpick
  exact ⟨Int.emod_nonneg _ (by omega), Int.emod_lt_of_pos _ hn⟩

set_option maxRecDepth 100000 in
set_option maxHeartbeats 800000 in
theorem kpick_any (c n : Int) (w : World) (hn : 0 < n) (c0 : -9223372036854775808 ≤ c) (c1 : c ≤ 9223372036854775807) :
    Calls Try.prog 20 #[.int .i64 c, .int .i64 n] w fun e w' => e = .returned (.int .i64 (kpick c n)) ∧ w = w' := by
  by_cases h : c < 0
  · have HF : Hid (kpick c n = (-(c + 1)) % n) := by show _ = _; unfold kpick; rw [if_pos h]
    have hx : 0 ≤ -(c + 1) := by omega
    go_enter Try.func20, Try.ntmps20
    go_wp2
    go_ret
    exact ⟨ret_int (by rw [HF.out, ← Int.neg_tmod, Int.tmod_eq_emod_of_nonneg hx]), rfl⟩
  · have HF : Hid (kpick c n = c % n) := by show _ = _; unfold kpick; rw [if_neg h]
    have hx : 0 ≤ c := by omega
    go_enter Try.func20, Try.ntmps20
    go_wp2
    go_ret
    exact ⟨ret_int (by rw [HF.out]), rfl⟩

end Go.Proofs.Ytjikemhmnkckcab
namespace Go.Proofs.Ytjikemhmnkckcab
open Go.RowKit

theorem getD_set (xs : List GSlot) (i j : Nat) (x : GSlot) (hi : i < xs.length) : (xs.set i x).getD j GSlot.no = if j = i then x else xs.getD j GSlot.no := by
  by_cases e : j = i
  · subst e; rw [if_pos rfl, getD_set_same _ _ _ _ hi]
  · rw [if_neg e]; simp [List.getD_eq_getElem?_getD, List.getElem?_set_ne (Ne.symm e)]

/-- the program's classes keep their form under other slots -/
theorem GOk.with_ {G : GSt} {rest : Int} {cls : List (Int × Int)} (h : GOk G rest cls) (k : Nat) (hk : k < cls.length) (xs : List GSlot) (hl : xs.length = (G.cs.getD k GCls.no).slots.length) (mem : List Int) : GOk (GSt.withSlots ⟨G.st, G.rest, G.cs, mem⟩ k xs) rest cls := by
  have hkl : k < G.cs.length := by rw [h.len]; exact hk
  refine ⟨h.conf, h.rest_, ?_, fun j hj => ?_, fun j hj => ?_, fun j hj => ?_⟩
  · rw [withSlots_len]; exact h.len
  · rw [withSlots_begin ⟨G.st, G.rest, G.cs, mem⟩ k j xs hkl]; exact h.bg j hj
  · rw [withSlots_bytes ⟨G.st, G.rest, G.cs, mem⟩ k j xs hkl]; exact h.by_ j hj
  · rw [withSlots_getD ⟨G.st, G.rest, G.cs, mem⟩ k j xs hkl]
    split
    · rename_i e; rw [e]; show (xs.length : Int) = _; rw [hl]; exact h.sl k hk
    · exact h.sl j hj

theorem LogOk.snoc {R : RSt} (h : LogOk R) (e : Ref.Ev) (hc : 0 ≤ e.cls) (hs0 : 0 ≤ e.slot) (hs1 : e.slot < Cf.sl R.cls e.cls.toNat) (hv : ∀ k s : Nat, e.takes k s = true → 0 ≤ Ref.given R.log k s) : LogOk ⟨R.st, R.rest, R.cls, R.log ++ [e], R.marks⟩ := by
  have hx : ∀ i, i < (R.log ++ [e]).length → (R.log ++ [e]).getD i Ref.Ev.no = e ∨ (i < R.log.length ∧ (R.log ++ [e]).getD i Ref.Ev.no = R.log.getD i Ref.Ev.no) := fun i hi => by
    by_cases e1 : i < R.log.length
    · exact .inr ⟨e1, Ref.getD_old _ _ _ e1⟩
    · left
      have : i = R.log.length := by simp at hi; omega
      rw [this, Ref.getD_new]
  refine ⟨fun i hi => ?_, fun i hi => ?_, fun i hi => ?_, fun k s hg => ?_⟩
  · show 0 ≤ ((R.log ++ [e]).getD i Ref.Ev.no).cls
    rcases hx i hi with e1 | ⟨e1, e2⟩
    · rw [e1]; exact hc
    · rw [e2]; exact h.cls0 i e1
  · show 0 ≤ ((R.log ++ [e]).getD i Ref.Ev.no).slot
    rcases hx i hi with e1 | ⟨e1, e2⟩
    · rw [e1]; exact hs0
    · rw [e2]; exact h.slot0 i e1
  · show ((R.log ++ [e]).getD i Ref.Ev.no).slot < Cf.sl R.cls ((R.log ++ [e]).getD i Ref.Ev.no).cls.toNat
    rcases hx i hi with e1 | ⟨e1, e2⟩
    · rw [e1]; exact hs1
    · rw [e2]; exact h.slot1 i e1
  · change Ref.given (R.log ++ [e]) k s < 0 at hg
    show Ref.gone (R.log ++ [e]) k s < 0
    rw [Ref.given_snoc] at hg
    cases hgv : e.gives (k : Int) (s : Int)
    · rw [hgv, if_neg (by decide)] at hg
      have h1 := h.vir k s hg
      rw [Ref.gone_snoc _ _ _ _ hgv, if_neg (by omega)]
      cases ht : e.takes (k : Int) (s : Int)
      · simp
      · have := hv k s ht; omega
    · rw [hgv, if_pos rfl] at hg; omega

theorem ROk.snoc {R : RSt} (h : ROk R) (e : Ref.Ev) (h0 : 0 ≤ e.size) (h1 : e.size ≤ 8) : ROk ⟨R.st, R.rest, R.cls, R.log ++ [e], R.marks⟩ := by
  have hx : ∀ i, (R.log ++ [e]).getD i Ref.Ev.no = e ∨ (R.log ++ [e]).getD i Ref.Ev.no = R.log.getD i Ref.Ev.no := fun i => by
    by_cases e1 : i < R.log.length
    · exact .inr (Ref.getD_old _ _ _ e1)
    · by_cases e2 : i = R.log.length
      · left; rw [e2, Ref.getD_new]
      · right
        rw [List.getD_eq_getElem?_getD, List.getD_eq_getElem?_getD, List.getElem?_eq_none (by simp; omega), List.getElem?_eq_none (by omega)]
  refine ⟨h.conf, fun i => ?_, fun i => ?_⟩
  · show 0 ≤ ((R.log ++ [e]).getD i Ref.Ev.no).size
    rcases hx i with e1 | e1 <;> rw [e1]
    · exact h0
    · exact h.size0 i
  · show ((R.log ++ [e]).getD i Ref.Ev.no).size ≤ 8
    rcases hx i with e1 | e1 <;> rw [e1]
    · exact h1
    · exact h.size1 i

theorem Sim.malloc {G : GSt} {R : RSt} (h : Sim G R) (k s : Nat) (hk : k < R.cls.length) (hs : s < (Cf.sl R.cls k).toNat) (t z site : Int) (z0 : 0 ≤ z) (z1 : z ≤ 8) (mem : List Int) (hm : mem.length = G.mem.length) :
    Sim (GSt.withSlots ⟨G.st, G.rest, G.cs, mem⟩ k ((G.cs.getD k GCls.no).slots.set s ⟨3, t, 16 * z, 0, site, 0⟩)) ⟨R.st, R.rest, R.cls, R.log ++ [⟨false, k, s, t, z, site⟩], R.marks⟩ := by
  have hkl : k < G.cs.length := by rw [h.ok.len]; exact hk
  have hsl : s < (G.cs.getD k GCls.no).slots.length := by rw [h.len hk]; exact hs
  have hso : ∀ k' s', slotOf (GSt.withSlots ⟨G.st, G.rest, G.cs, mem⟩ k ((G.cs.getD k GCls.no).slots.set s ⟨3, t, 16 * z, 0, site, 0⟩)) k' s' = if k' = k ∧ s' = s then ⟨3, t, 16 * z, 0, site, 0⟩ else slotOf G k' s' := fun k' s' => by
    rw [slotOf_with ⟨G.st, G.rest, G.cs, mem⟩ k k' s' _ hkl]
    by_cases e : k' = k
    · subst e
      rw [if_pos rfl, getD_set _ _ _ _ hsl]
      by_cases e2 : s' = s
      · rw [if_pos e2, if_pos ⟨rfl, e2⟩]
      · rw [if_neg e2, if_neg (fun x => e2 x.2)]; rfl
    · rw [if_neg e, if_neg (fun x => e x.1)]; rfl
  refine ⟨h.st, by show (mem.length : Int) = _; rw [hm]; exact h.mem, h.log.snoc _ (by simp) (by simp) (by show (s : Int) < Cf.sl R.cls (k : Int).toNat; rw [Int.toNat_natCast]; omega) (fun k' s' ht => by rw [takes_no] at ht; cases ht), h.ok.with_ k hk _ (by simp) mem, h.rok.snoc _ z0 z1, fun k' s' => ?_, fun k' s' hk' hs' => ?_⟩
  · rw [hso]; split
    · constructor <;> show _ <;> simp only <;> omega
    · exact h.bd k' s'
  · rw [hso]
    by_cases e : k' = k ∧ s' = s
    · rw [if_pos e, e.1, e.2]; exact SlotSim.given_ k s t z site
    · rw [if_neg e]
      have hg : (⟨false, (k : Int), (s : Int), t, z, site⟩ : Ref.Ev).gives k' s' = false := by
        cases e2 : (⟨false, (k : Int), (s : Int), t, z, site⟩ : Ref.Ev).gives k' s'
        · rfl
        · exact absurd ((gives_eq _ _ _ _ _ _ _).1 e2) e
      exact (h.slots k' s' hk' hs').other _ hg (takes_no _ _ _ _ _ _ _) (frees_no _ _ _ _ _ _)

theorem Sim.free {G : GSt} {R : RSt} (h : Sim G R) (k s : Nat) (hk : k < R.cls.length) (hs : s < (Cf.sl R.cls k).toNat) (h3 : Ref.state R.log k s = 3) (site : Int) :
    Sim (G.withSlots k (freed (G.cs.getD k GCls.no).slots s G.rest site)) ⟨R.st, R.rest, R.cls, R.log ++ [⟨true, k, s, 0, 0, site⟩], R.marks⟩ := by
  have hkl : k < G.cs.length := by rw [h.ok.len]; exact hk
  have hn := h.len hk
  have hsl : s < (G.cs.getD k GCls.no).slots.length := by rw [hn]; exact hs
  have hdl := decTo_len (G.cs.getD k GCls.no).slots (G.cs.getD k GCls.no).slots.length
  have hre := h.ok.rest_
  have hgv : 0 ≤ Ref.given R.log k s := by
    unfold Ref.state at h3; split at h3 <;> omega
  have hso : ∀ k' s', k' = k → slotOf (G.withSlots k (freed (G.cs.getD k GCls.no).slots s G.rest site)) k' s' = if s' = s then ⟨4, (slotOf G k s).tag, (slotOf G k s).bytes, G.rest, (slotOf G k s).alloc, site⟩ else if s' < (G.cs.getD k GCls.no).slots.length then dec1 (slotOf G k s') else GSlot.no := fun k' s' e => by
    rw [slotOf_with _ k k' s' _ hkl, if_pos e]
    unfold freed
    rw [getD_set _ _ _ _ (by omega)]
    by_cases e2 : s' = s
    · rw [if_pos e2, if_pos e2]; rfl
    · rw [if_neg e2, if_neg e2]
      by_cases e3 : s' < (G.cs.getD k GCls.no).slots.length
      · rw [if_pos e3, decTo_getD _ _ _ e3, if_pos e3]; rfl
      · rw [if_neg e3, List.getD_eq_getElem?_getD, List.getElem?_eq_none (by omega)]; rfl
  refine ⟨h.st, h.mem, h.log.snoc _ (by simp) (by simp) (by show (s : Int) < Cf.sl R.cls (k : Int).toNat; rw [Int.toNat_natCast]; omega) (fun k' s' ht => by obtain ⟨e1, e2⟩ := (takes_eq _ _ _ _ _ _ _).1 ht; rw [e1, e2]; exact hgv), h.ok.with_ k hk _ (freed_len _ _ _ _) G.mem, h.rok.snoc _ (by simp) (by simp), fun k' s' => ?_, fun k' s' hk' hs' => ?_⟩
  · by_cases e : k' = k
    · rw [hso k' s' e]
      split
      · exact h.bd k s
      · split
        · have := h.bd k s'
          unfold dec1; split <;> exact this
        · exact ⟨by simp [GSlot.no], by simp [GSlot.no]⟩
    · rw [slotOf_with _ k k' s' _ hkl, if_neg e]; exact h.bd k' s'
  · by_cases e : k' = k
    · subst e
      rw [hso k' s' rfl]
      change s' < (Cf.sl R.cls k').toNat at hs'
      by_cases e2 : s' = s
      · subst e2
        rw [if_pos rfl, hre]
        exact (h.slots k' s' hk' hs').taken h3 h.ok.conf.re0 site
      · rw [if_neg e2, if_pos (by omega)]
        exact (h.slots k' s' hk' hs').nearer s e2 site
    · rw [slotOf_with _ k k' s' _ hkl, if_neg e]
      have ht : (⟨true, (k : Int), (s : Int), 0, 0, site⟩ : Ref.Ev).takes k' s' = false := by
        cases e2 : (⟨true, (k : Int), (s : Int), 0, 0, site⟩ : Ref.Ev).takes k' s'
        · rfl
        · exact absurd ((takes_eq _ _ _ _ _ _ _).1 e2).1 e
      exact (h.slots k' s' hk' hs').other _ (gives_no _ _ _ _ _ _ _) ht (by rw [frees_eq]; simpa using e)

theorem Sim.rest_le {G : GSt} {R : RSt} (h : Sim G R) {k : Nat} (hk : k < R.cls.length) (j : Nat) (hj : j < (G.cs.getD k GCls.no).slots.length) : ((G.cs.getD k GCls.no).slots.getD j GSlot.no).rest ≤ 16 := by
  have hx := (h.slots k j hk (by rw [← h.len hk]; exact hj)).rest
  have h1 := h.ok.conf.re1
  change (slotOf G k j).rest ≤ 16
  rw [hx]; split <;> omega
end Go.Proofs.Ytjikemhmnkckcab
namespace Go.Proofs.Ytjikemhmnkckcab
open Go.RowKit

end Go.Proofs.Ytjikemhmnkckcab
