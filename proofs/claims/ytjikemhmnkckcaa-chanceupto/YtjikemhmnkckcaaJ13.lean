import Derived.Test.YtjikemhmnkckcaaJ12
namespace Go.Proofs.Ytjikemhmnkckcaa
open Go.RowKit

namespace Cf
theorem gran_mono {st rest : Int} {cls : List (Int × Int)} (h : Valid st rest cls) (j k : Nat) (hjk : j ≤ k) (hk : k ≤ cls.length) : gran st cls j ≤ gran st cls k := by
  induction k with
  | zero => obtain rfl : j = 0 := by omega
            exact Int.le_refl _
  | succ k ih =>
    by_cases e : j = k + 1
    · subst e; exact Int.le_refl _
    · have h1 := ih (by omega) (by omega)
      have h2 := prod_bd (by have := h.s0 k (by omega); omega) (h.s1 k (by omega)) (by have := h.g0 k (by omega); omega) (h.g1 k (by omega))
      simp only [gran]; omega
theorem begin_end {st rest : Int} {cls : List (Int × Int)} (h : Valid st rest cls) (k s : Nat) (hk : k < cls.length) (hs : (s : Int) < sl cls k) : begin_ st cls k s + 16 * gr cls k + 16 ≤ 16 * gran st cls cls.length := by
  have h1 := gran_mono h (k + 1) cls.length (by omega) (Nat.le_refl _)
  have hg := h.g0 k hk
  have h2 : (s : Int) * gr cls k + gr cls k ≤ sl cls k * gr cls k := by
    have : ((s : Int) + 1) * gr cls k ≤ sl cls k * gr cls k := Int.mul_le_mul_of_nonneg_right (by omega) (by omega)
    rw [Int.add_mul] at this; omega
  simp only [gran] at h1
  unfold begin_; omega
end Cf

set_option maxRecDepth 100000 in
set_option maxHeartbeats 800000 in
theorem gmalloc_size (p : Nat) (vc : Value) (bb : Nat) (G : GSt) (rest : Int) (cls : List (Int × Int)) (size draw site : Int) (w : World) (h : GRep w p vc bb G) (ho : GOk G rest cls) (hc : gcls cls size = -1) :
    Calls Try.prog 29 #[.pointer (some ⟨p, 0, none⟩), .int .i64 size, .int .i64 draw, .int .i64 site] w fun e w' => e = .returned (.tuple #[.int .i64 0, .int .i64 3]) ∧ w = w' := by
  have HR : Hid (GRep w p vc bb G) := h
  have HC : Hid (gcls cls size = -1) := hc
  clear h hc
  go_enter Try.func29, Try.ntmps29
  go_wp2_with (go_at_call 59; refine (classFor_any p vc bb G rest cls size _ HR.out ho).mono ?_; rw [HC.out]; rintro e1 w1 ⟨rfl, rfl⟩)
  go_ret2
  exact ⟨rfl, rfl⟩

set_option maxRecDepth 100000 in
set_option maxHeartbeats 800000 in
theorem gmalloc_full (p : Nat) (vc : Value) (bb : Nat) (G : GSt) (rest : Int) (cls : List (Int × Int)) (size draw site : Int) (k : Nat) (w : World) (h : GRep w p vc bb G) (ho : GOk G rest cls) (hc : gcls cls size = (k : Int)) (hk : k < cls.length)
    (hf : Ref.firstFrom (gopenB (G.cs.getD k GCls.no).slots) (G.cs.getD k GCls.no).slots.length 0 < 0) :
    Calls Try.prog 29 #[.pointer (some ⟨p, 0, none⟩), .int .i64 size, .int .i64 draw, .int .i64 site] w fun e w' => e = .returned (.tuple #[.int .i64 0, .int .i64 4]) ∧ w = w' := by
  have HR : Hid (GRep w p vc bb G) := h
  have HC : Hid (gcls cls size = (k : Int)) := hc
  have HO : Hid (GOk G rest cls) := ho
  have c2 := h.blk.cell (j := 2) rfl
  have hlen := ho.len
  have hkl : k < G.cs.length := by omega
  obtain ⟨ac, cap, rfl, hcap, hmax, hrow⟩ := row_open h.cls
  obtain ⟨g, rfl, hgl, hcell, _⟩ := hrow (by omega)
  unfold maxLen at hmax
  obtain ⟨d0, d1, d2⟩ := gcls_cells hcell k hkl
  have hblk := hide2 (h.slots k hkl)
  have hx : (G.cs.getD k GCls.no).slots.length ≤ 16 := by have := ho.sl k hk; have := ho.conf.s1 k hk; omega
  have hkI : (k : Int) < (G.cs.length : Int) := by omega
  have hl4 : G.cs.length ≤ 4 := by have := ho.conf.n1; omega
  generalize (G.cs.getD k GCls.no).slots = xs at *
  generalize (G.cs.getD k GCls.no).sb = sb at *
  clear h hc ho hrow hcell hlen d0 d1
  go_enter Try.func29, Try.ntmps29
  go_wp2_with (first
    | (go_at_call 59; refine (classFor_any p _ bb G rest cls size _ HR.out HO.out).mono ?_; rw [HC.out]; rintro e1 w1 ⟨rfl, rfl⟩)
    | (go_at_call 60; refine (openSlot_any g (k * 3) sb xs _ d2 hblk.out hx).mono ?_; rintro e1 w1 ⟨rfl, rfl⟩))
  go_ret2
  exact ⟨rfl, rfl⟩

theorem getD_set_same {α : Type} (xs : List α) (i : Nat) (x d : α) (h : i < xs.length) : (xs.set i x).getD i d = x := by simp [List.getD_eq_getElem?_getD, h]

/-- one field of a slot is written -/
theorem slot_field {w : World} {b : Nat} {xs : List GSlot} (h : Blk w b 79 (xs.flatMap slotCells)) (i j : Nat) (hi : i < xs.length) (hj : j < 6) (v : Value) (x' : GSlot) (hx : slotCells x' = (slotCells (xs.getD i GSlot.no)).set j v) :
    Blk (w.setCell ⟨b, i * 6 + j, none⟩ v) b 79 ((xs.set i x').flatMap slotCells) := by
  have e := h.setCell (i * 6 + j) v
  rw [flat_set slotCells 6 (fun _ => rfl) xs GSlot.no i j hi hj x' v hx] at e
  exact e

theorem slot_store {w : World} {b : Nat} {xs : List GSlot} (h : Blk w b 79 (xs.flatMap slotCells)) (i : Nat) (hi : i < xs.length) (x : GSlot) :
    Blk ((((((w.setCell ⟨b, i * 6, none⟩ (.int .i64 x.state)).setCell ⟨b, i * 6 + 1, none⟩ (.int .i64 x.tag)).setCell ⟨b, i * 6 + 2, none⟩ (.int .i64 x.bytes)).setCell ⟨b, i * 6 + 3, none⟩ (.int .i64 x.rest)).setCell ⟨b, i * 6 + 4, none⟩ (.int .i64 x.alloc)).setCell ⟨b, i * 6 + 5, none⟩ (.int .i64 x.gone)) b 79 ((xs.set i x).flatMap slotCells) := by
  obtain ⟨y, hy⟩ : ∃ y, y = xs.getD i GSlot.no := ⟨_, rfl⟩
  have h0 := slot_field h i 0 hi (by omega) (.int .i64 x.state) ⟨x.state, y.tag, y.bytes, y.rest, y.alloc, y.gone⟩ (by rw [← hy]; rfl)
  have h1 := slot_field h0 i 1 (by simpa using hi) (by omega) (.int .i64 x.tag) ⟨x.state, x.tag, y.bytes, y.rest, y.alloc, y.gone⟩ (by rw [getD_set_same _ _ _ _ hi]; rfl)
  rw [List.set_set] at h1
  have h2 := slot_field h1 i 2 (by simpa using hi) (by omega) (.int .i64 x.bytes) ⟨x.state, x.tag, x.bytes, y.rest, y.alloc, y.gone⟩ (by rw [getD_set_same _ _ _ _ hi]; rfl)
  rw [List.set_set] at h2
  have h3 := slot_field h2 i 3 (by simpa using hi) (by omega) (.int .i64 x.rest) ⟨x.state, x.tag, x.bytes, x.rest, y.alloc, y.gone⟩ (by rw [getD_set_same _ _ _ _ hi]; rfl)
  rw [List.set_set] at h3
  have h4 := slot_field h3 i 4 (by simpa using hi) (by omega) (.int .i64 x.alloc) ⟨x.state, x.tag, x.bytes, x.rest, x.alloc, y.gone⟩ (by rw [getD_set_same _ _ _ _ hi]; rfl)
  rw [List.set_set] at h4
  have h5 := slot_field h4 i 5 (by simpa using hi) (by omega) (.int .i64 x.gone) x (by rw [getD_set_same _ _ _ _ hi]; rfl)
  rw [List.set_set] at h5
  exact h5

theorem Kept.set {w wr : World} {S : Nat → Prop} (h : Kept w wr S) (a : Addr) (v : Value) (ha : S a.block) : Kept w (wr.setCell a v) S :=
  ⟨h.os, h.tape, h.output, by rw [World.size_setCell]; exact h.size, fun k hk hs => (Below.heap_setCell wr a v k (fun e => hs (e ▸ ha))).trans (h.block k hk hs)⟩
theorem Kept.same (w : World) (S : Nat → Prop) : Kept w w S := ⟨rfl, rfl, rfl, Nat.le_refl _, fun _ _ _ => rfl⟩

set_option maxRecDepth 100000 in
set_option maxHeartbeats 600000 in
theorem gmalloc_ok (p : Nat) (vc : Value) (bb : Nat) (G : GSt) (rest : Int) (cls : List (Int × Int)) (size draw site : Int) (k s : Nat) (tg : Nat) (w : World) (h : GRep w p vc bb G) (ho : GOk G rest cls) (hmem : (G.mem.length : Int) = 16 * Cf.gran G.st cls cls.length)
    (h1 : 1 ≤ size) (hz : size ≤ 16 * Cf.gr cls k) (hc : gcls cls size = (k : Int)) (hk : k < cls.length) (hs : s < (G.cs.getD k GCls.no).slots.length)
    (hf : Ref.firstFrom (gopenB (G.cs.getD k GCls.no).slots) (G.cs.getD k GCls.no).slots.length 0 = (s : Int))
    (ht : PickMath.pick (glast (G.cs.getD k GCls.no).slots s) (glast (G.cs.getD k GCls.no).slots ((s : Int) - 1)) (glast (G.cs.getD k GCls.no).slots ((s : Int) + 1)) draw = tg) :
    Calls Try.prog 29 #[.pointer (some ⟨p, 0, none⟩), .int .i64 size, .int .i64 draw, .int .i64 site] w fun e w' => e = .returned (.tuple #[.int .i64 ((tg : Int) * 72057594037927936 + Cf.begin_ G.st cls k s), .int .i64 0]) ∧
      GRep w' p vc bb (GSt.withSlots ⟨G.st, G.rest, G.cs, clearTo G.mem (Cf.begin_ G.st cls k s).toNat (16 * Ref.gsz size).toNat⟩ k ((G.cs.getD k GCls.no).slots.set s ⟨3, tg, 16 * Ref.gsz size, 0, site, 0⟩)) ∧
      Kept w w' (fun b => b = bb ∨ b = (G.cs.getD k GCls.no).sb) := by
  have t1 : 1 ≤ tg := by rw [← ht]; exact PickMath.pick_lo _ _ _ _
  have t2 : tg ≤ 14 := by rw [← ht]; exact PickMath.pick_hi _ _ _ _
  have HR : Hid (GRep w p vc bb G) := h
  have HC : Hid (gcls cls size = (k : Int)) := hc
  have HO : Hid (GOk G rest cls) := ho
  have HF := hide2 hf
  have HT := hide2 ht
  have c2 := h.blk.cell (j := 2) rfl
  have hp := h.blk.lt
  have hlen := ho.len
  have hkl : k < G.cs.length := by omega
  obtain ⟨ac, cap, rfl, hcap, hmax, hrow⟩ := row_open h.cls
  obtain ⟨g, rfl, hgl, hcell, _⟩ := hrow (by omega)
  unfold maxLen at hmax
  obtain ⟨d0, d1, d2⟩ := gcls_cells hcell k hkl
  rw [ho.bg k hk] at d0
  rw [ho.by_ k hk] at d1
  have HBK := hide2 (h.slots k hkl)
  have hbl := (h.slots k hkl).lt
  have hx : (G.cs.getD k GCls.no).slots.length ≤ 16 := by have := ho.sl k hk; have := ho.conf.s1 k hk; omega
  have hkI : (k : Int) < (G.cs.length : Int) := by omega
  have hl4 : G.cs.length ≤ 4 := by have := ho.conf.n1; omega
  have gg0 := ho.conf.g0 k hk
  have gg1 := ho.conf.g1 k hk
  have gb := Cf.gran_bd ho.conf k (by omega)
  have gbl := Cf.gran_bd ho.conf cls.length (Nat.le_refl _)
  have n4 := ho.conf.n1
  have hsl : (s : Int) < Cf.sl cls k := by have := ho.sl k hk; omega
  have pbd := Cf.prod_bd (a := (s : Int)) (b := Cf.gr cls k) (by omega) (by have := ho.conf.s1 k hk; omega) (by omega) (by omega)
  have bd := Cf.begin_bd ho.conf k hk s (by omega) (by have := ho.conf.s1 k hk; omega)
  have bend := Cf.begin_end ho.conf k s hk hsl
  have hgz : 16 * Ref.gsz size ≤ 16 * Cf.gr cls k ∧ 0 ≤ 16 * Ref.gsz size ∧ 16 * Ref.gsz size ≤ 128 := by unfold Ref.gsz; omega
  have HBE : Hid (Cf.begin_ G.st cls k s = 16 * Cf.gran G.st cls k + (s : Int) * (16 * Cf.gr cls k)) := Cf.begin_eq _ _ _ _
  have PM : Hid (0 ≤ (s : Int) * (16 * Cf.gr cls k) ∧ (s : Int) * (16 * Cf.gr cls k) ≤ 1000000) := by
    rw [Int.mul_left_comm]; exact ⟨by omega, by omega⟩
  obtain ⟨nb, hnb⟩ := Int.eq_ofNat_of_zero_le (show 0 ≤ Cf.begin_ G.st cls k s by omega)
  obtain ⟨nl, hnl⟩ := Int.eq_ofNat_of_zero_le hgz.2.1
  have HNB := hide2 hnb
  have HNL := hide2 hnl
  have hroom : nb + nl ≤ G.mem.length ∧ G.mem.length ≤ 1000000 := by omega
  have hnl2 : nl ≤ 128 ∧ nb ≤ 8640 := by omega
  have hsI : (s : Int) < ((G.cs.getD k GCls.no).slots.length : Int) := by omega
  have HAP := hide2 (h.apS k hkl)
  have HB0 := hide2 (⟨h.apB, h.apCB⟩ : bb ≠ p ∧ _)
  generalize hsb : (G.cs.getD k GCls.no).sb = sb at *
  generalize hxs : (G.cs.getD k GCls.no).slots = xs at *
  have HSB := hide2 hsb
  have HXS := hide2 hxs
  clear h hc ho hrow hcell hlen hf ht hnb hnl hsb hxs
  go_enter Try.func29, Try.ntmps29
  go_wp2_with fail
  refine (classFor_any p _ bb G rest cls size _ HR.out HO.out).mono ?_
  rw [HC.out]
  rintro e1 w1 ⟨rfl, rfl⟩
  go_wp2_with fail
  refine (openSlot_any g (k * 3) _ _ _ d2 HBK.out hx).mono ?_
  rw [HF.out]
  rintro e1 w2 ⟨rfl, rfl⟩
  go_wp2_with fail
  refine (pickTag_any g (k * 3) _ _ s draw _ d2 HBK.out (by omega)).mono ?_
  rw [HT.out]
  rintro e1 w3 ⟨rfl, hb3⟩
  have c2' := (hb3.cell (p := ⟨p, 2, none⟩) hp).trans c2
  have d0' := (hb3.cell (p := ⟨g, k * 3, none⟩) hgl).trans d0
  have d1' := (hb3.cell (p := ⟨g, k * 3 + 1, none⟩) hgl).trans d1
  go_wp2_with fail
  refine (whole_any size _ h1 (by omega)).mono ?_
  rw [HNL.out]
  rintro e1 w4 ⟨rfl, hw4⟩
  subst hw4
  go_wp2_with fail
  refine (slotBegin_any g (k * 3) (16 * Cf.gran G.st cls k) (16 * Cf.gr cls k) (s : Int) _ d0' d1' (by omega) (by omega) PM.out.1 PM.out.2).mono ?_
  rw [← HBE.out, HNB.out]
  rintro e1 w5 ⟨rfl, hb5'⟩
  have hb5 := hb3.trans (hb5'.mono hb3.size)
  clear hb5' c2' d0' d1'
  go_wp2_with fail
  refine (clear_any p _ bb G nb nl _ (HR.out.below hb5) hroom.1 hroom.2).mono ?_
  rintro e1 w6 ⟨rfl, hR6, hk6⟩
  have c2'' := hR6.blk.cell (j := 2) rfl
  obtain ⟨ac6, cap6, hv6, _, _, hrow6⟩ := row_open hR6.cls
  injection hv6 with ea eb ec
  subst ea ec
  obtain ⟨g6, hg6, hgl6, hcell6, _⟩ := hrow6 (by show 0 < G.cs.length; omega)
  injection hg6 with hg6
  injection hg6 with hg6 _ _
  subst hg6
  obtain ⟨_, _, d2''⟩ := gcls_cells hcell6 k hkl
  have hbk6 := hR6.slots k hkl
  change w6.cell? _ = some (.slice (some ⟨(G.cs.getD k GCls.no).sb, 0, none⟩) (G.cs.getD k GCls.no).slots.length (G.cs.getD k GCls.no).slots.length) at d2''
  change Blk w6 (G.cs.getD k GCls.no).sb _ ((G.cs.getD k GCls.no).slots.flatMap slotCells) at hbk6
  rw [HSB.out, HXS.out] at d2'' hbk6
  obtain ⟨e0, e1, e2, e3, e4, e5⟩ := slot_cells hbk6 s hs
  have f0 := hbk6.frozen (s * 6)
  have f1 := hbk6.frozen (s * 6 + 1)
  have f2 := hbk6.frozen (s * 6 + 2)
  have f3 := hbk6.frozen (s * 6 + 3)
  have f4 := hbk6.frozen (s * 6 + 4)
  have f5 := hbk6.frozen (s * 6 + 5)
  have HBK6 := hide2 hbk6
  have HR6 := hide2 hR6
  have HK6 := hide2 hk6
  clear hR6 hk6 hbk6 hcell6 hrow6 c2 d0 d1 d2 eb
  generalize xs.getD s GSlot.no = x0 at *
  go_wp2
  go_ret2
  rw [HNB.out, HNL.out]
  have hst := slot_store HBK6.out s hs ⟨3, tg, nl, 0, site, 0⟩
  have hkk := ((((((Kept.same w6 (fun b => b = sb)).set ⟨sb, s * 6, none⟩ (.int .i64 3) rfl).set ⟨sb, s * 6 + 1, none⟩ (.int .i64 tg) rfl).set ⟨sb, s * 6 + 2, none⟩ (.int .i64 nl) rfl).set ⟨sb, s * 6 + 3, none⟩ (.int .i64 0) rfl).set ⟨sb, s * 6 + 4, none⟩ (.int .i64 site) rfl).set ⟨sb, s * 6 + 5, none⟩ (.int .i64 0) rfl
  refine ⟨rfl, ?_, ?_⟩
  · simp only [Int.toNat_natCast]
    exact HR6.out.setSlots k hkl _ (by show _ = (G.cs.getD k GCls.no).slots.length; rw [HXS.out]; simp) (by show Kept _ _ (fun b => b = (G.cs.getD k GCls.no).sb); rw [HSB.out]; exact hkk) (by show Blk _ (G.cs.getD k GCls.no).sb _ _; rw [HSB.out]; exact hst)
  · exact (((Kept.of_below hb5 _).trans (HK6.out.mono fun b _ hb => .inl hb)).trans (hkk.mono fun b _ hb => .inr hb))
end Go.Proofs.Ytjikemhmnkckcaa
