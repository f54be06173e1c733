import Derived.Test.YtjikemhmnkckcabGreatJ10
import Derived.Test.YtjikemhmnkckcabGreatJ8
namespace Go.Proofs.YtjikemhmnkckcabGreat
open Go.RowKit

theorem getD_set (xs : List GSlot) (i j : Nat) (x : GSlot) (hi : i < xs.length) : (xs.set i x).getD j GSlot.no = if j = i then x else xs.getD j GSlot.no := by
  by_cases e : j = i
  · subst e; rw [if_pos rfl, getD_set_same _ _ _ _ hi]
  · rw [if_neg e]; simp [List.getD_eq_getElem?_getD, List.getElem?_set_ne (Ne.symm e)]

/-- the program's classes keep their form under other slots -/
theorem GOk.with_ {G : GSt} {rest : Int} {cls : List (Int × Int)} (h : GOk G rest cls) (k : Nat) (hk : k < cls.length) (xs : List GSlot) (hl : xs.length = (G.cs.getD k GCls.no).slots.length) (mem : List Int) : GOk (GSt.withSlots ⟨G.st, G.rest, G.cs, mem⟩ k xs) rest cls := by
  have hkl : k < G.cs.length := by rw [h.len]; exact hk
  refine ⟨h.conf, h.rest_, ?_, fun j hj => ?_, fun j hj => ?_, fun j hj => ?_⟩
  · rw [withSlots_len]; exact h.len
  · rw [withSlots_begin ⟨G.st, G.rest, G.cs, mem⟩ k j xs hkl]; exact h.bg j hj
  · rw [withSlots_bytes ⟨G.st, G.rest, G.cs, mem⟩ k j xs hkl]; exact h.by_ j hj
  · rw [withSlots_getD ⟨G.st, G.rest, G.cs, mem⟩ k j xs hkl]
    split
    · rename_i e; rw [e]; show (xs.length : Int) = _; rw [hl]; exact h.sl k hk
    · exact h.sl j hj

theorem LogOk.snoc {R : RSt} (h : LogOk R) (e : Ref.Ev) (hc : 0 ≤ e.cls) (hs0 : 0 ≤ e.slot) (hs1 : e.slot < Cf.sl R.cls e.cls.toNat) (hv : ∀ k s : Nat, e.takes k s = true → 0 ≤ Ref.given R.log k s) : LogOk ⟨R.st, R.rest, R.cls, R.log ++ [e], R.marks⟩ := by
  have hx : ∀ i, i < (R.log ++ [e]).length → (R.log ++ [e]).getD i Ref.Ev.no = e ∨ (i < R.log.length ∧ (R.log ++ [e]).getD i Ref.Ev.no = R.log.getD i Ref.Ev.no) := fun i hi => by
    by_cases e1 : i < R.log.length
    · exact .inr ⟨e1, Ref.getD_old _ _ _ e1⟩
    · left
      have : i = R.log.length := by simp at hi; omega
      rw [this, Ref.getD_new]
  refine ⟨fun i hi => ?_, fun i hi => ?_, fun i hi => ?_, fun k s hg => ?_⟩
  · show 0 ≤ ((R.log ++ [e]).getD i Ref.Ev.no).cls
    rcases hx i hi with e1 | ⟨e1, e2⟩
    · rw [e1]; exact hc
    · rw [e2]; exact h.cls0 i e1
  · show 0 ≤ ((R.log ++ [e]).getD i Ref.Ev.no).slot
    rcases hx i hi with e1 | ⟨e1, e2⟩
    · rw [e1]; exact hs0
    · rw [e2]; exact h.slot0 i e1
  · show ((R.log ++ [e]).getD i Ref.Ev.no).slot < Cf.sl R.cls ((R.log ++ [e]).getD i Ref.Ev.no).cls.toNat
    rcases hx i hi with e1 | ⟨e1, e2⟩
    · rw [e1]; exact hs1
    · rw [e2]; exact h.slot1 i e1
  · change Ref.given (R.log ++ [e]) k s < 0 at hg
    show Ref.gone (R.log ++ [e]) k s < 0
    rw [Ref.given_snoc] at hg
    cases hgv : e.gives (k : Int) (s : Int)
    · rw [hgv, if_neg (by decide)] at hg
      have h1 := h.vir k s hg
      rw [Ref.gone_snoc _ _ _ _ hgv, if_neg (by omega)]
      cases ht : e.takes (k : Int) (s : Int)
      · simp
      · have := hv k s ht; omega
    · rw [hgv, if_pos rfl] at hg; omega

theorem ROk.snoc {R : RSt} (h : ROk R) (e : Ref.Ev) (h0 : 0 ≤ e.size) (h1 : e.size ≤ 8) : ROk ⟨R.st, R.rest, R.cls, R.log ++ [e], R.marks⟩ := by
  have hx : ∀ i, (R.log ++ [e]).getD i Ref.Ev.no = e ∨ (R.log ++ [e]).getD i Ref.Ev.no = R.log.getD i Ref.Ev.no := fun i => by
    by_cases e1 : i < R.log.length
    · exact .inr (Ref.getD_old _ _ _ e1)
    · by_cases e2 : i = R.log.length
      · left; rw [e2, Ref.getD_new]
      · right
        rw [List.getD_eq_getElem?_getD, List.getD_eq_getElem?_getD, List.getElem?_eq_none (by simp; omega), List.getElem?_eq_none (by omega)]
  refine ⟨h.conf, fun i => ?_, fun i => ?_⟩
  · show 0 ≤ ((R.log ++ [e]).getD i Ref.Ev.no).size
    rcases hx i with e1 | e1 <;> rw [e1]
    · exact h0
    · exact h.size0 i
  · show ((R.log ++ [e]).getD i Ref.Ev.no).size ≤ 8
    rcases hx i with e1 | e1 <;> rw [e1]
    · exact h1
    · exact h.size1 i

theorem Sim.malloc {G : GSt} {R : RSt} (h : Sim G R) (k s : Nat) (hk : k < R.cls.length) (hs : s < (Cf.sl R.cls k).toNat) (t z site : Int) (z0 : 0 ≤ z) (z1 : z ≤ 8) (mem : List Int) (hm : mem.length = G.mem.length) :
    Sim (GSt.withSlots ⟨G.st, G.rest, G.cs, mem⟩ k ((G.cs.getD k GCls.no).slots.set s ⟨3, t, 16 * z, 0, site, 0⟩)) ⟨R.st, R.rest, R.cls, R.log ++ [⟨false, k, s, t, z, site⟩], R.marks⟩ := by
  have hkl : k < G.cs.length := by rw [h.ok.len]; exact hk
  have hsl : s < (G.cs.getD k GCls.no).slots.length := by rw [h.len hk]; exact hs
  have hso : ∀ k' s', slotOf (GSt.withSlots ⟨G.st, G.rest, G.cs, mem⟩ k ((G.cs.getD k GCls.no).slots.set s ⟨3, t, 16 * z, 0, site, 0⟩)) k' s' = if k' = k ∧ s' = s then ⟨3, t, 16 * z, 0, site, 0⟩ else slotOf G k' s' := fun k' s' => by
    rw [slotOf_with ⟨G.st, G.rest, G.cs, mem⟩ k k' s' _ hkl]
    by_cases e : k' = k
    · subst e
      rw [if_pos rfl, getD_set _ _ _ _ hsl]
      by_cases e2 : s' = s
      · rw [if_pos e2, if_pos ⟨rfl, e2⟩]
      · rw [if_neg e2, if_neg (fun x => e2 x.2)]; rfl
    · rw [if_neg e, if_neg (fun x => e x.1)]; rfl
  refine ⟨h.st, by show (mem.length : Int) = _; rw [hm]; exact h.mem, h.log.snoc _ (by simp) (by simp) (by show (s : Int) < Cf.sl R.cls (k : Int).toNat; rw [Int.toNat_natCast]; omega) (fun k' s' ht => by rw [takes_no] at ht; cases ht), h.ok.with_ k hk _ (by simp) mem, h.rok.snoc _ z0 z1, fun k' s' => ?_, fun k' s' hk' hs' => ?_⟩
  · rw [hso]; split
    · constructor <;> show _ <;> simp only <;> omega
    · exact h.bd k' s'
  · rw [hso]
    by_cases e : k' = k ∧ s' = s
    · rw [if_pos e, e.1, e.2]; exact SlotSim.given_ k s t z site
    · rw [if_neg e]
      have hg : (⟨false, (k : Int), (s : Int), t, z, site⟩ : Ref.Ev).gives k' s' = false := by
        cases e2 : (⟨false, (k : Int), (s : Int), t, z, site⟩ : Ref.Ev).gives k' s'
        · rfl
        · exact absurd ((gives_eq _ _ _ _ _ _ _).1 e2) e
      exact (h.slots k' s' hk' hs').other _ hg (takes_no _ _ _ _ _ _ _) (frees_no _ _ _ _ _ _)

theorem Sim.free {G : GSt} {R : RSt} (h : Sim G R) (k s : Nat) (hk : k < R.cls.length) (hs : s < (Cf.sl R.cls k).toNat) (h3 : Ref.state R.log k s = 3) (site : Int) :
    Sim (G.withSlots k (freed (G.cs.getD k GCls.no).slots s G.rest site)) ⟨R.st, R.rest, R.cls, R.log ++ [⟨true, k, s, 0, 0, site⟩], R.marks⟩ := by
  have hkl : k < G.cs.length := by rw [h.ok.len]; exact hk
  have hn := h.len hk
  have hsl : s < (G.cs.getD k GCls.no).slots.length := by rw [hn]; exact hs
  have hdl := decTo_len (G.cs.getD k GCls.no).slots (G.cs.getD k GCls.no).slots.length
  have hre := h.ok.rest_
  have hgv : 0 ≤ Ref.given R.log k s := by
    unfold Ref.state at h3; split at h3 <;> omega
  have hso : ∀ k' s', k' = k → slotOf (G.withSlots k (freed (G.cs.getD k GCls.no).slots s G.rest site)) k' s' = if s' = s then ⟨4, (slotOf G k s).tag, (slotOf G k s).bytes, G.rest, (slotOf G k s).alloc, site⟩ else if s' < (G.cs.getD k GCls.no).slots.length then dec1 (slotOf G k s') else GSlot.no := fun k' s' e => by
    rw [slotOf_with _ k k' s' _ hkl, if_pos e]
    unfold freed
    rw [getD_set _ _ _ _ (by omega)]
    by_cases e2 : s' = s
    · rw [if_pos e2, if_pos e2]; rfl
    · rw [if_neg e2, if_neg e2]
      by_cases e3 : s' < (G.cs.getD k GCls.no).slots.length
      · rw [if_pos e3, decTo_getD _ _ _ e3, if_pos e3]; rfl
      · rw [if_neg e3, List.getD_eq_getElem?_getD, List.getElem?_eq_none (by omega)]; rfl
  refine ⟨h.st, h.mem, h.log.snoc _ (by simp) (by simp) (by show (s : Int) < Cf.sl R.cls (k : Int).toNat; rw [Int.toNat_natCast]; omega) (fun k' s' ht => by obtain ⟨e1, e2⟩ := (takes_eq _ _ _ _ _ _ _).1 ht; rw [e1, e2]; exact hgv), h.ok.with_ k hk _ (freed_len _ _ _ _) G.mem, h.rok.snoc _ (by simp) (by simp), fun k' s' => ?_, fun k' s' hk' hs' => ?_⟩
  · by_cases e : k' = k
    · rw [hso k' s' e]
      split
      · exact h.bd k s
      · split
        · have := h.bd k s'
          unfold dec1; split <;> exact this
        · exact ⟨by simp [GSlot.no], by simp [GSlot.no]⟩
    · rw [slotOf_with _ k k' s' _ hkl, if_neg e]; exact h.bd k' s'
  · by_cases e : k' = k
    · subst e
      rw [hso k' s' rfl]
      change s' < (Cf.sl R.cls k').toNat at hs'
      by_cases e2 : s' = s
      · subst e2
        rw [if_pos rfl, hre]
        exact (h.slots k' s' hk' hs').taken h3 h.ok.conf.re0 site
      · rw [if_neg e2, if_pos (by omega)]
        exact (h.slots k' s' hk' hs').nearer s e2 site
    · rw [slotOf_with _ k k' s' _ hkl, if_neg e]
      have ht : (⟨true, (k : Int), (s : Int), 0, 0, site⟩ : Ref.Ev).takes k' s' = false := by
        cases e2 : (⟨true, (k : Int), (s : Int), 0, 0, site⟩ : Ref.Ev).takes k' s'
        · rfl
        · exact absurd ((takes_eq _ _ _ _ _ _ _).1 e2).1 e
      exact (h.slots k' s' hk' hs').other _ (gives_no _ _ _ _ _ _ _) ht (by rw [frees_eq]; simpa using e)

theorem Sim.rest_le {G : GSt} {R : RSt} (h : Sim G R) {k : Nat} (hk : k < R.cls.length) (j : Nat) (hj : j < (G.cs.getD k GCls.no).slots.length) : ((G.cs.getD k GCls.no).slots.getD j GSlot.no).rest ≤ 16 := by
  have hx := (h.slots k j hk (by rw [← h.len hk]; exact hj)).rest
  have h1 := h.ok.conf.re1
  change (slotOf G k j).rest ≤ 16
  rw [hx]; split <;> omega
end Go.Proofs.YtjikemhmnkckcabGreat
namespace Go.Proofs.YtjikemhmnkckcabGreat
open Go.RowKit

set_option maxRecDepth 100000 in
set_option maxHeartbeats 800000 in
theorem rfree_none (p : Nat) (site : Int) (w : World) :
    Calls Tryz.prog 36 #[.pointer (some ⟨p, 0, none⟩), .int .i64 0, .int .i64 site] w fun e w' => e = .returned (.int .i64 0) ∧ w = w' := by
  go_enter Tryz.func36, Tryz.ntmps36
  go_wp2
  go_ret
  exact ⟨rfl, rfl⟩

set_option maxRecDepth 100000 in
set_option maxHeartbeats 800000 in
theorem rfree_err (p : Nat) (vc vl vm : Value) (R : RSt) (q site : Int) (w : World) (h : RRep w p vc vl vm R) (ho : ROk R) (q1 : q ≤ 9223372036854775807) (hq : q ≠ 0) (he : (Ref.block R.st R.cls R.log q).2.2 ≠ 0) :
    Calls Tryz.prog 36 #[.pointer (some ⟨p, 0, none⟩), .int .i64 q, .int .i64 site] w fun e w' => e = .returned (.int .i64 (Ref.block R.st R.cls R.log q).2.2) ∧ Below w.heap.size w w' := by
  have hq0 : (q == 0) = false := by rw [beq_eq_false_iff_ne]; exact hq
  have he0 : ((Ref.block R.st R.cls R.log q).2.2 != 0) = true := by rw [bne_iff_ne]; exact he
  have HR : Hid (RRep w p vc vl vm R) := h
  clear hq he h
  go_enter Tryz.func36, Tryz.ntmps36
  go_wp2_with (go_at_call 59; refine (rblock_any p vc vl vm R q _ HR.out ho q1).mono ?_; rintro e1 w1 ⟨rfl, hb1⟩)
  go_ret
  exact ⟨rfl, hb1⟩

set_option maxRecDepth 100000 in
set_option maxHeartbeats 1600000 in
theorem rfree_ok (p : Nat) (vc vl vm : Value) (R : RSt) (q site : Int) (k s : Nat) (w : World) (h : RRep w p vc vl vm R) (ho : ROk R) (q1 : q ≤ 9223372036854775807) (hq : q ≠ 0) (he : Ref.block R.st R.cls R.log q = ((k : Int), (s : Int), 0)) (hroom : (R.log.length + 1) * 48 ≤ 140737488355328) :
    Calls Tryz.prog 36 #[.pointer (some ⟨p, 0, none⟩), .int .i64 q, .int .i64 site] w fun e w' => ∃ vl', e = .returned (.int .i64 0) ∧
      RRep w' p vc vl' vm ⟨R.st, R.rest, R.cls, R.log ++ [⟨true, k, s, 0, 0, site⟩], R.marks⟩ ∧ Kept w w' (fun b => b = p ∨ vl.ownBlock = some b) ∧ NewBlk vl vl' w := by
  have hq0 : (q == 0) = false := by rw [beq_eq_false_iff_ne]; exact hq
  obtain ⟨i0, hi0, hz0, hz1, hz2⟩ := info_parts info_ev
  have c3 := h.blk.cell (j := 3) rfl
  have cf3 := h.blk.frozen 3
  have hp := h.blk.lt
  have HR : Hid (RRep w p vc vl vm R) := h
  have HE : Hid (Ref.block R.st R.cls R.log q = ((k : Int), (s : Int), 0)) := he
  have HAP : Hid (vl.ownBlock ≠ some p) := h.apL
  clear hq he h
  go_enter Tryz.func36, Tryz.ntmps36
  go_wp2_with fail
  refine (rblock_any p vc vl vm R q _ HR.out ho q1).mono ?_
  rw [HE.out]
  rintro e1 w5 ⟨rfl, hb4⟩
  have HR5 : Hid (RRep w5 p vc vl vm R) := HR.out.below hb4
  have hrow : Hid (w5.ownsRow 0 131 6 vl R.log.length (R.log.flatMap evCells)) := HR5.out.log
  have q3 := (hb4.cell (p := ⟨p, 3, none⟩) hp).trans c3
  have qf3 := (hb4.frozen (p := ⟨p, 3, none⟩) hp).trans cf3
  have hp5 : p < w5.heap.size := HR5.out.blk.lt
  clear c3 cf3
  go_wp2_with (at_builtin; refine wpList_append_lies _ rfl _ _ _ rfl 0 131 i0 _ 6 48 Tryz.underlying86 hi0 hz0 hz1 hz2 rfl (by omega) vl R.log.length (R.log.flatMap evCells) rfl (hrow.out.alloc _) ⟨w5.heap.size, 0, none⟩ 1 1 (evCells ⟨true, k, s, 0, 0, site⟩) rfl rfl (World.news_of_block (cs := #[.bool true, .int .i64 (k : Int), .int .i64 (s : Int), .int .i64 0, .int .i64 0, .int .i64 site]) (t := 131) (fr := (0, 0)) (heap_alloc_new w5 _)) (by simp [Value.oneCell', evCells]) (by omega) (by simp [maxLen]; omega) (by omega) (by simp) (w5.heap.size + 1) (by simp) ?_; intro gg cap2 w7 hown hgrow hat hlt7; have c3' : w7.cell? ⟨p, 3, none⟩ = some vl := (by rw [hgrow.cell_far _ (by simp; omega) (fun e => HAP.out e.symm), World.cell?_alloc_lt _ _ _ hp5]; exact q3); have f3' : w7.frozen? ⟨p, 3, none⟩ = false := (by rw [hgrow.frozen_far _ (by simp; omega) (fun e => HAP.out e.symm), World.frozen?_alloc_old _ _ _ (by show p ≠ _; omega)]; exact qf3))
  have hpush := HR5.out.push ⟨true, k, s, 0, 0, site⟩ hown hgrow hat
  go_ret
  exact ⟨_, rfl, hpush.1, (Kept.of_below hb4 _).trans hpush.2.1, fun x hx => (hpush.2.2 x hx).imp id (fun e => Nat.le_trans hb4.size e)⟩
end Go.Proofs.YtjikemhmnkckcabGreat
/- Malloc and Free of both heaps, each by one contract. -/
namespace Go.Proofs.YtjikemhmnkckcabGreat
open Go.RowKit

/-- what Malloc answers: the pointer, the error -/
def mOut (R : RSt) (size draw : Int) : Int × Int :=
  if size < 1 ∨ Ref.cls_ R.cls size = R.cls.length then (0, 3)
  else if Ref.first R.log R.rest R.cls (Ref.cls_ R.cls size) < 0 then (0, 4)
  else ((Ref.tagOf R.log (Ref.cls_ R.cls size) (Ref.first R.log R.rest R.cls (Ref.cls_ R.cls size)).toNat draw : Int) * 72057594037927936 + Cf.begin_ R.st R.cls (Ref.cls_ R.cls size) ((Ref.first R.log R.rest R.cls (Ref.cls_ R.cls size)).toNat : Int), 0)
def mEv (R : RSt) (size draw site : Int) : Ref.Ev :=
  ⟨false, (Ref.cls_ R.cls size : Int), ((Ref.first R.log R.rest R.cls (Ref.cls_ R.cls size)).toNat : Int), (Ref.tagOf R.log (Ref.cls_ R.cls size) (Ref.first R.log R.rest R.cls (Ref.cls_ R.cls size)).toNat draw : Int), Ref.gsz size, site⟩
def mR (R : RSt) (size draw site : Int) : RSt := if (mOut R size draw).2 = 0 then ⟨R.st, R.rest, R.cls, R.log ++ [mEv R size draw site], R.marks⟩ else R
def mG (G : GSt) (R : RSt) (size draw site : Int) : GSt :=
  if (mOut R size draw).2 = 0 then
    GSt.withSlots ⟨G.st, G.rest, G.cs, clearTo G.mem (Cf.begin_ G.st R.cls (Ref.cls_ R.cls size) ((Ref.first R.log R.rest R.cls (Ref.cls_ R.cls size)).toNat : Int)).toNat (16 * Ref.gsz size).toNat⟩ (Ref.cls_ R.cls size)
      ((G.cs.getD (Ref.cls_ R.cls size) GCls.no).slots.set (Ref.first R.log R.rest R.cls (Ref.cls_ R.cls size)).toNat ⟨3, (Ref.tagOf R.log (Ref.cls_ R.cls size) (Ref.first R.log R.rest R.cls (Ref.cls_ R.cls size)).toNat draw : Int), 16 * Ref.gsz size, 0, site, 0⟩)
  else G

/-- the three cases -/
theorem mOut_cases (R : RSt) (_ho : ROk R) (size draw : Int) :
    ((size < 1 ∨ Ref.cls_ R.cls size = R.cls.length) ∧ mOut R size draw = (0, 3)) ∨
    (∃ k, 1 ≤ size ∧ Ref.cls_ R.cls size = k ∧ k < R.cls.length ∧ Ref.first R.log R.rest R.cls k < 0 ∧ mOut R size draw = (0, 4)) ∨
    (∃ k s : Nat, 1 ≤ size ∧ Ref.cls_ R.cls size = k ∧ k < R.cls.length ∧ Ref.first R.log R.rest R.cls k = (s : Int) ∧ s < (Cf.sl R.cls k).toNat ∧ size ≤ 16 * Cf.gr R.cls k ∧
      mOut R size draw = ((Ref.tagOf R.log k s draw : Int) * 72057594037927936 + Cf.begin_ R.st R.cls k s, 0)) := by
  unfold mOut
  by_cases h : size < 1 ∨ Ref.cls_ R.cls size = R.cls.length
  · exact .inl ⟨h, if_pos h⟩
  · rw [if_neg h]
    have hle := Ref.cls_le R.cls size
    right
    by_cases h2 : Ref.first R.log R.rest R.cls (Ref.cls_ R.cls size) < 0
    · exact .inl ⟨_, by omega, rfl, by omega, h2, if_pos h2⟩
    · right
      obtain ⟨s, hs⟩ := Int.eq_ofNat_of_zero_le (show 0 ≤ Ref.first R.log R.rest R.cls (Ref.cls_ R.cls size) by omega)
      refine ⟨Ref.cls_ R.cls size, s, by omega, rfl, by omega, hs, ?_, Ref.cls_at R.cls size (by omega), ?_⟩
      · have := Ref.firstFrom_hi (Ref.openB R.log R.rest (Ref.cls_ R.cls size)) (Cf.sl R.cls (Ref.cls_ R.cls size)).toNat 0
        unfold Ref.first at hs; omega
      · rw [if_neg h2, hs, Int.toNat_natCast]

theorem mR_ok {R : RSt} {size draw site : Int} {k s : Nat} (hk : Ref.cls_ R.cls size = k) (hf : Ref.first R.log R.rest R.cls k = (s : Int)) (hm : (mOut R size draw).2 = 0) :
    mR R size draw site = ⟨R.st, R.rest, R.cls, R.log ++ [⟨false, k, s, Ref.tagOf R.log k s draw, Ref.gsz size, site⟩], R.marks⟩ := by
  unfold mR mEv; rw [if_pos hm, hk, hf, Int.toNat_natCast]
theorem mG_ok {G : GSt} {R : RSt} {size draw site : Int} {k s : Nat} (hk : Ref.cls_ R.cls size = k) (hf : Ref.first R.log R.rest R.cls k = (s : Int)) (hm : (mOut R size draw).2 = 0) :
    mG G R size draw site = GSt.withSlots ⟨G.st, G.rest, G.cs, clearTo G.mem (Cf.begin_ G.st R.cls k s).toNat (16 * Ref.gsz size).toNat⟩ k ((G.cs.getD k GCls.no).slots.set s ⟨3, (Ref.tagOf R.log k s draw : Int), 16 * Ref.gsz size, 0, site, 0⟩) := by
  unfold mG; rw [if_pos hm, hk, hf, Int.toNat_natCast]
theorem gsz_bd {size g : Int} (h1 : 1 ≤ size) (h2 : size ≤ 16 * g) (h3 : g ≤ 8) : 0 ≤ Ref.gsz size ∧ Ref.gsz size ≤ 8 := by unfold Ref.gsz; omega

theorem sim_malloc {G : GSt} {R : RSt} (h : Sim G R) (size draw site : Int) : Sim (mG G R size draw site) (mR R size draw site) := by
  rcases mOut_cases R h.rok size draw with ⟨_, hm⟩ | ⟨k, _, _, _, _, hm⟩ | ⟨k, s, h1, hk, hkl, hf, hs, hz, hm⟩
  · unfold mG mR; rw [hm]; exact h
  · unfold mG mR; rw [hm]; exact h
  · rw [mG_ok hk hf (by rw [hm]), mR_ok hk hf (by rw [hm])]
    have hg := h.ok.conf.g1 k hkl
    have hb := gsz_bd h1 hz hg
    exact h.malloc k s hkl hs _ _ site hb.1 hb.2 _ (clearTo_len _ _ _)

theorem mOut_bd {R : RSt} (ho : ROk R) (size draw : Int) : 0 ≤ (mOut R size draw).1 ∧ (mOut R size draw).1 ≤ 1152921504606846976 := by
  rcases mOut_cases R ho size draw with ⟨_, hm⟩ | ⟨k, _, _, _, _, hm⟩ | ⟨k, s, h1, hk, hkl, hf, hs, hz, hm⟩
  · rw [hm]; simp
  · rw [hm]; simp
  · rw [hm]
    have hs1 := ho.conf.s1 k hkl
    have hb := Cf.begin_bd ho.conf k hkl s (by omega) (by omega)
    have t2 := PickMath.pick_hi (Ref.last R.log k s) (Ref.last R.log k ((s : Int) - 1)) (Ref.last R.log k ((s : Int) + 1)) draw
    change Ref.tagOf R.log k s draw ≤ 14 at t2
    show 0 ≤ (Ref.tagOf R.log k s draw : Int) * 72057594037927936 + Cf.begin_ R.st R.cls k s ∧ (Ref.tagOf R.log k s draw : Int) * 72057594037927936 + Cf.begin_ R.st R.cls k s ≤ 1152921504606846976
    omega

theorem mG_foot {G : GSt} {R : RSt} (h : Sim G R) (size draw site : Int) (p : Nat) (gc : Value) (bb b : Nat) : GFoot p gc bb (mG G R size draw site) b ↔ GFoot p gc bb G b := by
  rcases mOut_cases R h.rok size draw with ⟨_, hm⟩ | ⟨k, _, _, _, _, hm⟩ | ⟨k, s, h1, hk, hkl, hf, hs, hz, hm⟩
  · unfold mG; rw [hm]; exact Iff.rfl
  · unfold mG; rw [hm]; exact Iff.rfl
  · rw [mG_ok hk hf (by rw [hm])]
    have hkl2 : k < G.cs.length := by rw [h.ok.len]; exact hkl
    exact (withSlots_foot ⟨G.st, G.rest, G.cs, clearTo G.mem (Cf.begin_ G.st R.cls k s).toNat (16 * Ref.gsz size).toNat⟩ k _ hkl2 p gc bb b).trans Iff.rfl

theorem gmalloc_all (p : Nat) (gc : Value) (bb : Nat) (G : GSt) (R : RSt) (size draw site : Int) (w : World) (h : GRep w p gc bb G) (hs : Sim G R) :
    Calls Tryz.prog 110 #[.pointer (some ⟨p, 0, none⟩), .int .i64 size, .int .i64 draw, .int .i64 site] w fun e w' => e = .returned (.tuple #[.int .i64 (mOut R size draw).1, .int .i64 (mOut R size draw).2]) ∧
      GRep w' p gc bb (mG G R size draw site) ∧ Kept w w' (GFoot p gc bb G) := by
  rcases mOut_cases R hs.rok size draw with ⟨hc, hm⟩ | ⟨k, h1, hk, hkl, hf, hm⟩ | ⟨k, s, h1, hk, hkl, hf, hsl, hz, hm⟩
  · refine (gmalloc_size p gc bb G R.rest R.cls size draw site w h hs.ok (if_pos hc)).mono ?_
    rintro e w' ⟨rfl, rfl⟩
    rw [hm]
    exact ⟨rfl, by unfold mG; rw [hm]; exact h, Kept.same _ _⟩
  · refine (gmalloc_full p gc bb G R.rest R.cls size draw site k w h hs.ok (by unfold gcls; rw [if_neg (by omega), hk]) hkl (by rw [hs.first hkl]; exact hf)).mono ?_
    rintro e w' ⟨rfl, rfl⟩
    rw [hm]
    exact ⟨rfl, by unfold mG; rw [hm]; exact h, Kept.same _ _⟩
  · have hkl2 : k < G.cs.length := by rw [hs.ok.len]; exact hkl
    refine (gmalloc_ok p gc bb G R.rest R.cls size draw site k s (Ref.tagOf R.log k s draw) w h hs.ok hs.mem h1 hz (by unfold gcls; rw [if_neg (by omega), hk]) hkl (by rw [hs.len hkl]; exact hsl) (by rw [hs.first hkl]; exact hf) (hs.tagOf hkl s draw)).mono ?_
    rintro e w' ⟨rfl, hG, hK⟩
    rw [hm, hs.st]
    refine ⟨rfl, by rw [mG_ok hk hf (by rw [hm])]; exact hG, hK.mono fun b _ hb => ?_⟩
    rcases hb with hb | hb
    · exact .inr (.inr (.inl hb))
    · exact .inr (.inr (.inr ⟨k, hkl2, hb⟩))

theorem rmalloc_all (p : Nat) (vc vl vm : Value) (R : RSt) (size draw site : Int) (w : World) (h : RRep w p vc vl vm R) (ho : ROk R) (hroom : (R.log.length + 1) * 48 ≤ 140737488355328) :
    Calls Tryz.prog 87 #[.pointer (some ⟨p, 0, none⟩), .int .i64 size, .int .i64 draw, .int .i64 site] w fun e w' => ∃ vl', e = .returned (.tuple #[.int .i64 (mOut R size draw).1, .int .i64 (mOut R size draw).2]) ∧
      RRep w' p vc vl' vm (mR R size draw site) ∧ Kept w w' (RFoot p vc vl vm) ∧ NewBlk vl vl' w := by
  rcases mOut_cases R ho size draw with ⟨hc, hm⟩ | ⟨k, h1, hk, hkl, hf, hm⟩ | ⟨k, s, h1, hk, hkl, hf, hsl, hz, hm⟩
  · refine (rmalloc_size p vc vl vm R size draw site w h ho hc).mono ?_
    rintro e w' ⟨rfl, rfl⟩
    rw [hm]
    exact ⟨vl, rfl, by unfold mR; rw [hm]; exact h, Kept.same _ _, fun g hg => .inl hg⟩
  · refine (rmalloc_full p vc vl vm R size draw site k w h ho h1 hk hkl hf).mono ?_
    rintro e w' ⟨rfl, hb⟩
    rw [hm]
    exact ⟨vl, rfl, by unfold mR; rw [hm]; exact h.below hb, Kept.of_below hb _, fun g hg => .inl hg⟩
  · refine (rmalloc_ok p vc vl vm R size draw site k s w h ho h1 hk hkl hf (by omega) hroom).mono ?_
    rintro e w' ⟨vl', rfl, hR, hK, hN⟩
    rw [hm]
    refine ⟨vl', rfl, by rw [mR_ok hk hf (by rw [hm])]; exact hR, hK.mono fun b _ hb => ?_, hN⟩
    rcases hb with hb | hb
    · exact .inl hb
    · exact .inr (.inr (.inl hb))

/-- what Free answers -/
def fOut (R : RSt) (q : Int) : Int := if q = 0 then 0 else (Ref.block R.st R.cls R.log q).2.2
/-- is a slot freed? -/
def fDoes (R : RSt) (q : Int) : Prop := q ≠ 0 ∧ (Ref.block R.st R.cls R.log q).2.2 = 0
theorem block_cases (st : Int) (cls : List (Int × Int)) (log : List Ref.Ev) (q : Int) : (Ref.block st cls log q).2.2 ≠ 0 ∨ ∃ k s : Nat, Ref.block st cls log q = ((k : Int), (s : Int), 0) ∧ k < cls.length ∧ s < (Cf.sl cls k).toNat ∧ Ref.state log k s = 3 := by
  unfold Ref.block
  cases ht : Ref.tameB q
  · left; simp
  · rw [if_pos rfl]
    generalize q % Ref.U = a
    generalize q / Ref.U = t
    have aux : ∀ f k, k + f ≤ cls.length → (Ref.blockFrom st cls log a t f k).2.2 ≠ 0 ∨ ∃ k' s : Nat, Ref.blockFrom st cls log a t f k = ((k' : Int), (s : Int), 0) ∧ k' < cls.length ∧ s < (Cf.sl cls k').toNat ∧ Ref.state log k' s = 3 := by
      intro f
      induction f with
      | zero => intro k _; left; simp [Ref.blockFrom]
      | succ f ih =>
        intro k hk
        simp only [Ref.blockFrom]
        by_cases h0 : 0 ≤ Ref.blockIn st cls log a t k
        · rw [if_pos h0]
          obtain ⟨s, hs⟩ := Int.eq_ofNat_of_zero_le h0
          have hm := Ref.firstFrom_at _ _ _ h0
          have hhi := Ref.firstFrom_hi (Ref.matchB st cls log a t k) (Cf.sl cls k).toNat 0
          change 0 ≤ Ref.blockIn st cls log a t k ∧ Ref.matchB st cls log a t k (Ref.blockIn st cls log a t k).toNat = true at hm
          change Ref.blockIn st cls log a t k < _ at hhi
          rw [hs] at hm hhi ⊢
          rw [Int.toNat_natCast] at hm
          by_cases h4 : Ref.state log k s = 4
          · rw [if_pos h4]; left; simp
          · rw [if_neg h4]
            right
            refine ⟨k, s, rfl, by omega, by omega, ?_⟩
            have h2 := ((match_iff _ _ _ _ _ _ _).1 hm.2).2.2
            unfold Ref.state at h2 h4 ⊢
            split
            · rename_i hh; rw [if_pos hh] at h2; exact absurd rfl h2
            · rename_i hh
              rw [if_neg hh] at h4
              split
              · rfl
              · rename_i hh2; rw [if_neg hh2] at h4; exact absurd rfl h4
        · rw [if_neg h0]; exact ih (k + 1) (by omega)
    exact aux cls.length 0 (by omega)

theorem gfree_all (p : Nat) (gc : Value) (bb : Nat) (G : GSt) (R : RSt) (q site : Int) (w : World) (h : GRep w p gc bb G) (hs : Sim G R) (q1 : q ≤ 9223372036854775807) :
    Calls Tryz.prog 111 #[.pointer (some ⟨p, 0, none⟩), .int .i64 q, .int .i64 site] w fun e w' => e = .returned (.int .i64 (fOut R q)) ∧ Kept w w' (GFoot p gc bb G) ∧
      ((¬ fDoes R q ∧ GRep w' p gc bb G) ∨ ∃ k s : Nat, fDoes R q ∧ Ref.block R.st R.cls R.log q = ((k : Int), (s : Int), 0) ∧ k < R.cls.length ∧ s < (Cf.sl R.cls k).toNat ∧ Ref.state R.log k s = 3 ∧ GRep w' p gc bb (G.withSlots k (freed (G.cs.getD k GCls.no).slots s G.rest site))) := by
  by_cases hq : q = 0
  · subst hq
    refine (gfree_none p site w).mono ?_
    rintro e w' ⟨rfl, rfl⟩
    exact ⟨rfl, Kept.same _ _, .inl ⟨fun x => x.1 rfl, h⟩⟩
  · have hfo : fOut R q = (Ref.block R.st R.cls R.log q).2.2 := if_neg hq
    rcases block_cases R.st R.cls R.log q with he | ⟨k, s, he, hk, hsl, h3⟩
    · refine (gfree_err p gc bb G R.rest R.cls q site w h hs.ok q1 hq (by rw [hs.block]; exact he)).mono ?_
      rintro e w' ⟨rfl, hb⟩
      rw [hs.block, hfo]
      exact ⟨rfl, Kept.of_below hb _, .inl ⟨fun x => he x.2, h.below hb⟩⟩
    · have hkl2 : k < G.cs.length := by rw [hs.ok.len]; exact hk
      refine (gfree_ok p gc bb G R.rest R.cls q site k s w h hs.ok q1 hq (by rw [hs.block]; exact he) hk (by rw [hs.len hk]; exact hsl) (fun j hj => hs.rest_le hk j hj)).mono ?_
      rintro e w' ⟨rfl, hG, hK⟩
      rw [hfo, he]
      exact ⟨rfl, hK.mono fun b _ hb => .inr (.inr (.inr ⟨k, hkl2, hb⟩)), .inr ⟨k, s, ⟨hq, by rw [he]⟩, rfl, hk, hsl, h3, hG⟩⟩

theorem rfree_all (p : Nat) (vc vl vm : Value) (R : RSt) (q site : Int) (w : World) (h : RRep w p vc vl vm R) (ho : ROk R) (q1 : q ≤ 9223372036854775807) (hroom : (R.log.length + 1) * 48 ≤ 140737488355328) :
    Calls Tryz.prog 36 #[.pointer (some ⟨p, 0, none⟩), .int .i64 q, .int .i64 site] w fun e w' => ∃ vl', e = .returned (.int .i64 (fOut R q)) ∧ Kept w w' (RFoot p vc vl vm) ∧ NewBlk vl vl' w ∧
      ((¬ fDoes R q ∧ RRep w' p vc vl' vm R) ∨ ∃ k s : Nat, fDoes R q ∧ Ref.block R.st R.cls R.log q = ((k : Int), (s : Int), 0) ∧ RRep w' p vc vl' vm ⟨R.st, R.rest, R.cls, R.log ++ [⟨true, k, s, 0, 0, site⟩], R.marks⟩) := by
  by_cases hq : q = 0
  · subst hq
    refine (rfree_none p site w).mono ?_
    rintro e w' ⟨rfl, rfl⟩
    exact ⟨vl, rfl, Kept.same _ _, fun g hg => .inl hg, .inl ⟨fun x => x.1 rfl, h⟩⟩
  · have hfo : fOut R q = (Ref.block R.st R.cls R.log q).2.2 := if_neg hq
    rcases block_cases R.st R.cls R.log q with he | ⟨k, s, he, hk, hsl, h3⟩
    · refine (rfree_err p vc vl vm R q site w h ho q1 hq he).mono ?_
      rintro e w' ⟨rfl, hb⟩
      rw [hfo]
      exact ⟨vl, rfl, Kept.of_below hb _, fun g hg => .inl hg, .inl ⟨fun x => he x.2, h.below hb⟩⟩
    · refine (rfree_ok p vc vl vm R q site k s w h ho q1 hq he hroom).mono ?_
      rintro e w' ⟨vl', rfl, hR, hK, hN⟩
      rw [hfo, he]
      refine ⟨vl', rfl, hK.mono fun b _ hb => ?_, hN, .inr ⟨k, s, ⟨hq, by rw [he]⟩, rfl, hR⟩⟩
      rcases hb with hb | hb
      · exact .inl hb
      · exact .inr (.inr (.inl hb))
end Go.Proofs.YtjikemhmnkckcabGreat
