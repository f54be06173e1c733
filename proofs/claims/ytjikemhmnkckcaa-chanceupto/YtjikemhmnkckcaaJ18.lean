import Derived.Test.YtjikemhmnkckcaaJ17
import Derived.Test.YtjikemhmnkckcaaJ15
namespace Go.Proofs.Ytjikemhmnkckcaa
open Go.RowKit

theorem getD_set (xs : List GSlot) (i j : Nat) (x : GSlot) (hi : i < xs.length) : (xs.set i x).getD j GSlot.no = if j = i then x else xs.getD j GSlot.no := by
  by_cases e : j = i
  · subst e; rw [if_pos rfl, getD_set_same _ _ _ _ hi]
  · rw [if_neg e]; simp [List.getD_eq_getElem?_getD, List.getElem?_set_ne (Ne.symm e)]

/-- the program's classes keep their form under other slots -/
theorem GOk.with_ {G : GSt} {rest : Int} {cls : List (Int × Int)} (h : GOk G rest cls) (k : Nat) (hk : k < cls.length) (xs : List GSlot) (hl : xs.length = (G.cs.getD k GCls.no).slots.length) (mem : List Int) : GOk (GSt.withSlots ⟨G.st, G.rest, G.cs, mem⟩ k xs) rest cls := by
  have hkl : k < G.cs.length := by rw [h.len]; exact hk
  refine ⟨h.conf, h.rest_, ?_, fun j hj => ?_, fun j hj => ?_, fun j hj => ?_⟩
  · rw [withSlots_len]; exact h.len
  · rw [withSlots_begin ⟨G.st, G.rest, G.cs, mem⟩ k j xs hkl]; exact h.bg j hj
  · rw [withSlots_bytes ⟨G.st, G.rest, G.cs, mem⟩ k j xs hkl]; exact h.by_ j hj
  · rw [withSlots_getD ⟨G.st, G.rest, G.cs, mem⟩ k j xs hkl]
    split
    · rename_i e; rw [e]; show (xs.length : Int) = _; rw [hl]; exact h.sl k hk
    · exact h.sl j hj

theorem LogOk.snoc {R : RSt} (h : LogOk R) (e : Ref.Ev) (hc : 0 ≤ e.cls) (hs0 : 0 ≤ e.slot) (hs1 : e.slot < Cf.sl R.cls e.cls.toNat) (hv : ∀ k s : Nat, e.takes k s = true → 0 ≤ Ref.given R.log k s) : LogOk ⟨R.st, R.rest, R.cls, R.log ++ [e], R.marks⟩ := by
  have hx : ∀ i, i < (R.log ++ [e]).length → (R.log ++ [e]).getD i Ref.Ev.no = e ∨ (i < R.log.length ∧ (R.log ++ [e]).getD i Ref.Ev.no = R.log.getD i Ref.Ev.no) := fun i hi => by
    by_cases e1 : i < R.log.length
    · exact .inr ⟨e1, Ref.getD_old _ _ _ e1⟩
    · left
      have : i = R.log.length := by simp at hi; omega
      rw [this, Ref.getD_new]
  refine ⟨fun i hi => ?_, fun i hi => ?_, fun i hi => ?_, fun k s hg => ?_⟩
  · show 0 ≤ ((R.log ++ [e]).getD i Ref.Ev.no).cls
    rcases hx i hi with e1 | ⟨e1, e2⟩
    · rw [e1]; exact hc
    · rw [e2]; exact h.cls0 i e1
  · show 0 ≤ ((R.log ++ [e]).getD i Ref.Ev.no).slot
    rcases hx i hi with e1 | ⟨e1, e2⟩
    · rw [e1]; exact hs0
    · rw [e2]; exact h.slot0 i e1
  · show ((R.log ++ [e]).getD i Ref.Ev.no).slot < Cf.sl R.cls ((R.log ++ [e]).getD i Ref.Ev.no).cls.toNat
    rcases hx i hi with e1 | ⟨e1, e2⟩
    · rw [e1]; exact hs1
    · rw [e2]; exact h.slot1 i e1
  · change Ref.given (R.log ++ [e]) k s < 0 at hg
    show Ref.gone (R.log ++ [e]) k s < 0
    rw [Ref.given_snoc] at hg
    cases hgv : e.gives (k : Int) (s : Int)
    · rw [hgv, if_neg (by decide)] at hg
      have h1 := h.vir k s hg
      rw [Ref.gone_snoc _ _ _ _ hgv, if_neg (by omega)]
      cases ht : e.takes (k : Int) (s : Int)
      · simp
      · have := hv k s ht; omega
    · rw [hgv, if_pos rfl] at hg; omega

theorem ROk.snoc {R : RSt} (h : ROk R) (e : Ref.Ev) (h0 : 0 ≤ e.size) (h1 : e.size ≤ 8) : ROk ⟨R.st, R.rest, R.cls, R.log ++ [e], R.marks⟩ := by
  have hx : ∀ i, (R.log ++ [e]).getD i Ref.Ev.no = e ∨ (R.log ++ [e]).getD i Ref.Ev.no = R.log.getD i Ref.Ev.no := fun i => by
    by_cases e1 : i < R.log.length
    · exact .inr (Ref.getD_old _ _ _ e1)
    · by_cases e2 : i = R.log.length
      · left; rw [e2, Ref.getD_new]
      · right
        rw [List.getD_eq_getElem?_getD, List.getD_eq_getElem?_getD, List.getElem?_eq_none (by simp; omega), List.getElem?_eq_none (by omega)]
  refine ⟨h.conf, fun i => ?_, fun i => ?_⟩
  · show 0 ≤ ((R.log ++ [e]).getD i Ref.Ev.no).size
    rcases hx i with e1 | e1 <;> rw [e1]
    · exact h0
    · exact h.size0 i
  · show ((R.log ++ [e]).getD i Ref.Ev.no).size ≤ 8
    rcases hx i with e1 | e1 <;> rw [e1]
    · exact h1
    · exact h.size1 i

theorem Sim.malloc {G : GSt} {R : RSt} (h : Sim G R) (k s : Nat) (hk : k < R.cls.length) (hs : s < (Cf.sl R.cls k).toNat) (t z site : Int) (z0 : 0 ≤ z) (z1 : z ≤ 8) (mem : List Int) (hm : mem.length = G.mem.length) :
    Sim (GSt.withSlots ⟨G.st, G.rest, G.cs, mem⟩ k ((G.cs.getD k GCls.no).slots.set s ⟨3, t, 16 * z, 0, site, 0⟩)) ⟨R.st, R.rest, R.cls, R.log ++ [⟨false, k, s, t, z, site⟩], R.marks⟩ := by
  have hkl : k < G.cs.length := by rw [h.ok.len]; exact hk
  have hsl : s < (G.cs.getD k GCls.no).slots.length := by rw [h.len hk]; exact hs
  have hso : ∀ k' s', slotOf (GSt.withSlots ⟨G.st, G.rest, G.cs, mem⟩ k ((G.cs.getD k GCls.no).slots.set s ⟨3, t, 16 * z, 0, site, 0⟩)) k' s' = if k' = k ∧ s' = s then ⟨3, t, 16 * z, 0, site, 0⟩ else slotOf G k' s' := fun k' s' => by
    rw [slotOf_with ⟨G.st, G.rest, G.cs, mem⟩ k k' s' _ hkl]
    by_cases e : k' = k
    · subst e
      rw [if_pos rfl, getD_set _ _ _ _ hsl]
      by_cases e2 : s' = s
      · rw [if_pos e2, if_pos ⟨rfl, e2⟩]
      · rw [if_neg e2, if_neg (fun x => e2 x.2)]; rfl
    · rw [if_neg e, if_neg (fun x => e x.1)]; rfl
  refine ⟨h.st, by show (mem.length : Int) = _; rw [hm]; exact h.mem, h.log.snoc _ (by simp) (by simp) (by show (s : Int) < Cf.sl R.cls (k : Int).toNat; rw [Int.toNat_natCast]; omega) (fun k' s' ht => by rw [takes_no] at ht; cases ht), h.ok.with_ k hk _ (by simp) mem, h.rok.snoc _ z0 z1, fun k' s' => ?_, fun k' s' hk' hs' => ?_⟩
  · rw [hso]; split
    · constructor <;> show _ <;> simp only <;> omega
    · exact h.bd k' s'
  · rw [hso]
    by_cases e : k' = k ∧ s' = s
    · rw [if_pos e, e.1, e.2]; exact SlotSim.given_ k s t z site
    · rw [if_neg e]
      have hg : (⟨false, (k : Int), (s : Int), t, z, site⟩ : Ref.Ev).gives k' s' = false := by
        cases e2 : (⟨false, (k : Int), (s : Int), t, z, site⟩ : Ref.Ev).gives k' s'
        · rfl
        · exact absurd ((gives_eq _ _ _ _ _ _ _).1 e2) e
      exact (h.slots k' s' hk' hs').other _ hg (takes_no _ _ _ _ _ _ _) (frees_no _ _ _ _ _ _)

theorem Sim.free {G : GSt} {R : RSt} (h : Sim G R) (k s : Nat) (hk : k < R.cls.length) (hs : s < (Cf.sl R.cls k).toNat) (h3 : Ref.state R.log k s = 3) (site : Int) :
    Sim (G.withSlots k (freed (G.cs.getD k GCls.no).slots s G.rest site)) ⟨R.st, R.rest, R.cls, R.log ++ [⟨true, k, s, 0, 0, site⟩], R.marks⟩ := by
  have hkl : k < G.cs.length := by rw [h.ok.len]; exact hk
  have hn := h.len hk
  have hsl : s < (G.cs.getD k GCls.no).slots.length := by rw [hn]; exact hs
  have hdl := decTo_len (G.cs.getD k GCls.no).slots (G.cs.getD k GCls.no).slots.length
  have hre := h.ok.rest_
  have hgv : 0 ≤ Ref.given R.log k s := by
    unfold Ref.state at h3; split at h3 <;> omega
  have hso : ∀ k' s', k' = k → slotOf (G.withSlots k (freed (G.cs.getD k GCls.no).slots s G.rest site)) k' s' = if s' = s then ⟨4, (slotOf G k s).tag, (slotOf G k s).bytes, G.rest, (slotOf G k s).alloc, site⟩ else if s' < (G.cs.getD k GCls.no).slots.length then dec1 (slotOf G k s') else GSlot.no := fun k' s' e => by
    rw [slotOf_with _ k k' s' _ hkl, if_pos e]
    unfold freed
    rw [getD_set _ _ _ _ (by omega)]
    by_cases e2 : s' = s
    · rw [if_pos e2, if_pos e2]; rfl
    · rw [if_neg e2, if_neg e2]
      by_cases e3 : s' < (G.cs.getD k GCls.no).slots.length
      · rw [if_pos e3, decTo_getD _ _ _ e3, if_pos e3]; rfl
      · rw [if_neg e3, List.getD_eq_getElem?_getD, List.getElem?_eq_none (by omega)]; rfl
  refine ⟨h.st, h.mem, h.log.snoc _ (by simp) (by simp) (by show (s : Int) < Cf.sl R.cls (k : Int).toNat; rw [Int.toNat_natCast]; omega) (fun k' s' ht => by obtain ⟨e1, e2⟩ := (takes_eq _ _ _ _ _ _ _).1 ht; rw [e1, e2]; exact hgv), h.ok.with_ k hk _ (freed_len _ _ _ _) G.mem, h.rok.snoc _ (by simp) (by simp), fun k' s' => ?_, fun k' s' hk' hs' => ?_⟩
  · by_cases e : k' = k
    · rw [hso k' s' e]
      split
      · exact h.bd k s
      · split
        · have := h.bd k s'
          unfold dec1; split <;> exact this
        · exact ⟨by simp [GSlot.no], by simp [GSlot.no]⟩
    · rw [slotOf_with _ k k' s' _ hkl, if_neg e]; exact h.bd k' s'
  · by_cases e : k' = k
    · subst e
      rw [hso k' s' rfl]
      change s' < (Cf.sl R.cls k').toNat at hs'
      by_cases e2 : s' = s
      · subst e2
        rw [if_pos rfl, hre]
        exact (h.slots k' s' hk' hs').taken h3 h.ok.conf.re0 site
      · rw [if_neg e2, if_pos (by omega)]
        exact (h.slots k' s' hk' hs').nearer s e2 site
    · rw [slotOf_with _ k k' s' _ hkl, if_neg e]
      have ht : (⟨true, (k : Int), (s : Int), 0, 0, site⟩ : Ref.Ev).takes k' s' = false := by
        cases e2 : (⟨true, (k : Int), (s : Int), 0, 0, site⟩ : Ref.Ev).takes k' s'
        · rfl
        · exact absurd ((takes_eq _ _ _ _ _ _ _).1 e2).1 e
      exact (h.slots k' s' hk' hs').other _ (gives_no _ _ _ _ _ _ _) ht (by rw [frees_eq]; simpa using e)

theorem Sim.rest_le {G : GSt} {R : RSt} (h : Sim G R) {k : Nat} (hk : k < R.cls.length) (j : Nat) (hj : j < (G.cs.getD k GCls.no).slots.length) : ((G.cs.getD k GCls.no).slots.getD j GSlot.no).rest ≤ 16 := by
  have hx := (h.slots k j hk (by rw [← h.len hk]; exact hj)).rest
  have h1 := h.ok.conf.re1
  change (slotOf G k j).rest ≤ 16
  rw [hx]; split <;> omega
end Go.Proofs.Ytjikemhmnkckcaa
namespace Go.Proofs.Ytjikemhmnkckcaa
open Go.RowKit

set_option maxRecDepth 100000 in
set_option maxHeartbeats 800000 in
theorem rfree_none (p : Nat) (site : Int) (w : World) :
    Calls Try.prog 107 #[.pointer (some ⟨p, 0, none⟩), .int .i64 0, .int .i64 site] w fun e w' => e = .returned (.int .i64 0) ∧ w = w' := by
  go_enter Try.func107, Try.ntmps107
  go_wp2
  go_ret
  exact ⟨rfl, rfl⟩

set_option maxRecDepth 100000 in
set_option maxHeartbeats 800000 in
theorem rfree_err (p : Nat) (vc vl vm : Value) (R : RSt) (q site : Int) (w : World) (h : RRep w p vc vl vm R) (ho : ROk R) (q1 : q ≤ 9223372036854775807) (hq : q ≠ 0) (he : (Ref.block R.st R.cls R.log q).2.2 ≠ 0) :
    Calls Try.prog 107 #[.pointer (some ⟨p, 0, none⟩), .int .i64 q, .int .i64 site] w fun e w' => e = .returned (.int .i64 (Ref.block R.st R.cls R.log q).2.2) ∧ Below w.heap.size w w' := by
  have hq0 : (q == 0) = false := by rw [beq_eq_false_iff_ne]; exact hq
  have he0 : ((Ref.block R.st R.cls R.log q).2.2 != 0) = true := by rw [bne_iff_ne]; exact he
  have HR : Hid (RRep w p vc vl vm R) := h
  clear hq he h
  go_enter Try.func107, Try.ntmps107
  go_wp2_with (go_at_call 120; refine (rblock_any p vc vl vm R q _ HR.out ho q1).mono ?_; rintro e1 w1 ⟨rfl, hb1⟩)
  go_ret
  exact ⟨rfl, hb1⟩

set_option maxRecDepth 100000 in
set_option maxHeartbeats 1600000 in
theorem rfree_ok (p : Nat) (vc vl vm : Value) (R : RSt) (q site : Int) (k s : Nat) (w : World) (h : RRep w p vc vl vm R) (ho : ROk R) (q1 : q ≤ 9223372036854775807) (hq : q ≠ 0) (he : Ref.block R.st R.cls R.log q = ((k : Int), (s : Int), 0)) (hroom : (R.log.length + 1) * 48 ≤ 140737488355328) :
    Calls Try.prog 107 #[.pointer (some ⟨p, 0, none⟩), .int .i64 q, .int .i64 site] w fun e w' => ∃ vl', e = .returned (.int .i64 0) ∧
      RRep w' p vc vl' vm ⟨R.st, R.rest, R.cls, R.log ++ [⟨true, k, s, 0, 0, site⟩], R.marks⟩ ∧ Kept w w' (fun b => b = p ∨ vl.ownBlock = some b) ∧ NewBlk vl vl' w := by
  have hq0 : (q == 0) = false := by rw [beq_eq_false_iff_ne]; exact hq
  obtain ⟨i0, hi0, hz0, hz1, hz2⟩ := info_parts info_ev
  have c3 := h.blk.cell (j := 3) rfl
  have cf3 := h.blk.frozen 3
  have hp := h.blk.lt
  have HR : Hid (RRep w p vc vl vm R) := h
  have HE : Hid (Ref.block R.st R.cls R.log q = ((k : Int), (s : Int), 0)) := he
  have HAP : Hid (vl.ownBlock ≠ some p) := h.apL
  clear hq he h
  go_enter Try.func107, Try.ntmps107
  go_wp2_with fail
  refine (rblock_any p vc vl vm R q _ HR.out ho q1).mono ?_
  rw [HE.out]
  rintro e1 w5 ⟨rfl, hb4⟩
  have HR5 : Hid (RRep w5 p vc vl vm R) := HR.out.below hb4
  have hrow : Hid (w5.ownsRow 0 94 6 vl R.log.length (R.log.flatMap evCells)) := HR5.out.log
  have q3 := (hb4.cell (p := ⟨p, 3, none⟩) hp).trans c3
  have qf3 := (hb4.frozen (p := ⟨p, 3, none⟩) hp).trans cf3
  have hp5 : p < w5.heap.size := HR5.out.blk.lt
  clear c3 cf3
  go_wp2_with (at_builtin; refine wpList_append_lies _ rfl _ _ _ rfl 0 94 i0 _ 6 48 Try.underlying87 hi0 hz0 hz1 hz2 rfl (by omega) vl R.log.length (R.log.flatMap evCells) rfl (hrow.out.alloc _) ⟨w5.heap.size, 0, none⟩ 1 1 (evCells ⟨true, k, s, 0, 0, site⟩) rfl rfl (World.news_of_block (cs := #[.bool true, .int .i64 (k : Int), .int .i64 (s : Int), .int .i64 0, .int .i64 0, .int .i64 site]) (t := 94) (fr := (0, 0)) (heap_alloc_new w5 _)) (by simp [Value.oneCell', evCells]) (by omega) (by simp [maxLen]; omega) (by omega) (by simp) (w5.heap.size + 1) (by simp) ?_; intro gg cap2 w7 hown hgrow hat hlt7; have c3' : w7.cell? ⟨p, 3, none⟩ = some vl := (by rw [hgrow.cell_far _ (by simp; omega) (fun e => HAP.out e.symm), World.cell?_alloc_lt _ _ _ hp5]; exact q3); have f3' : w7.frozen? ⟨p, 3, none⟩ = false := (by rw [hgrow.frozen_far _ (by simp; omega) (fun e => HAP.out e.symm), World.frozen?_alloc_old _ _ _ (by show p ≠ _; omega)]; exact qf3))
  have hpush := HR5.out.push ⟨true, k, s, 0, 0, site⟩ hown hgrow hat
  go_ret
  exact ⟨_, rfl, hpush.1, (Kept.of_below hb4 _).trans hpush.2.1, fun x hx => (hpush.2.2 x hx).imp id (fun e => Nat.le_trans hb4.size e)⟩
end Go.Proofs.Ytjikemhmnkckcaa
