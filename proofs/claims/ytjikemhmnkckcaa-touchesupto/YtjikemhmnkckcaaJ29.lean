import Derived.Test.YtjikemhmnkckcaaJ28
import Derived.Test.YtjikemhmnkckcaaJ26
namespace Go.Proofs.Ytjikemhmnkckcaa
open Go.RowKit

theorem hide {p : Prop} (h : p) : Hid p := h
theorem unhide {p : Prop} (h : Hid p) : p := h

set_option maxRecDepth 100000 in
set_option maxHeartbeats 800000 in
theorem tags_any (q ph : Nat) (gc : Value) (bb : Nat) (G : GSt) (pr : Nat) (vc vl vm : Value) (R : RSt) (vp : Value) (ps : List Int) (vs : Value) (w : World) (h : WRep w q ph gc bb G pr vc vl vm R vp ps vs) :
    Calls Try.prog 18 #[.pointer (some ⟨q, 0, none⟩)] w fun e w' => e = .returned (.bool true) ∧ Below w.heap.size w w' := by
  have HW : Hid (WRep w q ph gc bb G pr vc vl vm R vp ps vs) := h
  have c0 := h.blk.cell (j := 0) rfl
  have c1 := h.blk.cell (j := 1) rfl
  have hq := h.blk.lt
  have HT : Hid (∀ addr, gtag G R.cls addr = Cf.tag R.st R.cls R.log addr) := h.sim.tag
  clear h
  go_enter Try.func18, Try.ntmps18
  go_wp2
  go_loopw [3] (fun i wr => ∃ n : Nat, n ≤ 452 ∧ i = .int .i64 ((n : Int) - 2) ∧ Below w.heap.size w wr) (fun i _ => (450 - intOf i).toNat)
  case atStart => exact ⟨0, by omega, rfl, Below.refl _ _⟩
  case round =>
    obtain ⟨n, hn, rfl, hb⟩ := hrel
    have c0' := (hb.cell (p := ⟨q, 0, none⟩) hq).trans c0
    have c1' := (hb.cell (p := ⟨q, 1, none⟩) hq).trans c1
    have HWr := hide (HW.out.below hb)
    by_cases hlt : n < 452
    · have hl : (n : Int) - 2 < 450 := by omega
      have hlo : -2 ≤ (n : Int) - 2 := by omega
      have e1 : Hid ((n : Int) - 2 + 1 = ((n + 1 : Nat) : Int) - 2) := by show _ = _; omega
      generalize (n : Int) - 2 = x at *
      have hne : (Cf.tag R.st R.cls R.log (16 * x) != Cf.tag R.st R.cls R.log (16 * x)) = false := by simp
      go_wp2_with (first
        | (go_at_call 16; refine (gtag_any ph gc bb G R.rest R.cls _ _ (unhide HWr).g (unhide HWr).sim.ok (unhide HWr).sim.bd (by omega) (by omega)).mono ?_; rw [HT.out]; rintro e w1 ⟨rfl, hb1⟩; have c1'' := (hb1.cell (p := ⟨q, 1, none⟩) (Nat.lt_of_lt_of_le hq hb.size)).trans c1')
        | (go_at_call 17; refine (rtag_any pr vc vl vm R _ _ ((unhide HWr).r.below hb1) (unhide HWr).sim.rok).mono ?_; rintro e w2 ⟨rfl, hb2⟩))
      go_roundw
      case rel => exact ⟨n + 1, by omega, by rw [e1.out], (hb.trans (hb1.mono hb.size)).trans (hb2.mono (Nat.le_trans hb.size hb1.size))⟩
      case measure => simp [intOf]; omega
    · have hl : ¬ (n : Int) - 2 < 450 := by omega
      go_wp2
      go_ret
      exact ⟨rfl, hb⟩

set_option maxRecDepth 100000 in
set_option maxHeartbeats 800000 in
theorem news_any (st rest : Int) (a : Option Addr) (cap : Nat) (cls : List (Int × Int)) (addr : Int) (w : World) (h : CRow w a cap cls) (hreach : cls.length * 16 ≤ 140737488351232) (a0 : -9223372036854775808 ≤ addr) (a1 : addr ≤ 9223372036854775807) :
    Calls Try.prog 3 #[.agg #[.int .i64 st, .int .i64 rest, .slice a cls.length cap], .int .i64 addr] w fun e w' => e = .returned (.bool true) ∧ Below w.heap.size w w' := by
  have HC : Hid (CRow w a cap cls) := h
  clear h
  cases hv : Cf.validB st rest cls
  · go_enter Try.func3, Try.ntmps3
    go_wp2_with (go_at_call 15; refine (begin_no st rest a cap cls _ (HC.out.below ((Below.refl _ _).alloc (Nat.le_refl _) _)) hreach hv).mono ?_; rintro e w1 ⟨rfl, hb1⟩)
    go_ret
    exact ⟨rfl, ((Below.refl _ _).alloc (Nat.le_refl _) _).trans (hb1.mono (by simp))⟩
  · have HV : Hid (Cf.Valid st rest cls) := Cf.valid_of hv
    have hne : (Cf.tag st cls [] addr != Cf.tag st cls [] addr) = false := by simp
    clear hv
    go_enter Try.func3, Try.ntmps3
    go_wp2_with fail
    refine (begin_yes st rest a cap cls _ (HC.out.below ((Below.refl _ _).alloc (Nat.le_refl _) _)) hreach HV.out).mono ?_
    rintro e w1 ⟨q, ph, gc, bb, G, pr, vc, rfl, hW, hb1, hf⟩
    have HW := hide hW
    have hw1 : Below w.heap.size w w1 := ((Below.refl _ _).alloc (Nat.le_refl _) _).trans (hb1.mono (by simp))
    have c0 := hW.blk.cell (j := 0) rfl
    have c1 := hW.blk.cell (j := 1) rfl
    have hq := hW.blk.lt
    have HT : Hid (∀ addr, gtag G cls addr = Cf.tag st cls [] addr) := hW.sim.tag
    clear hW hf hb1
    go_wp2_with (first
      | (go_at_call 16; refine (gtag_any ph gc bb G rest cls _ _ (unhide HW).g (unhide HW).sim.ok (unhide HW).sim.bd a0 a1).mono ?_; rw [HT.out]; rintro e w2 ⟨rfl, hb2⟩; have c1' := (hb2.cell (p := ⟨q, 1, none⟩) hq).trans c1)
      | (go_at_call 17; refine (rtag_any pr vc _ _ ⟨st, rest, cls, [], []⟩ _ _ ((unhide HW).r.below hb2) (unhide HW).sim.rok).mono ?_; rintro e w3 ⟨rfl, hb3'⟩; have hb3 := hb2.trans (hb3'.mono hb2.size); clear hb3')
      | (go_at_call 18; refine (tags_any q ph gc bb G pr vc _ _ _ _ _ _ _ ((unhide HW).below hb3)).mono ?_; rintro e w4 ⟨rfl, hb4'⟩; have hb4 := hb3.trans (hb4'.mono hb3.size); clear hb4'))
    go_ret
    exact ⟨rfl, hw1.trans (hb4.mono hw1.size)⟩
end Go.Proofs.Ytjikemhmnkckcaa
namespace Go.Proofs.Ytjikemhmnkckcaa
open Go.RowKit

/-- the pointer that a step speaks of -/
def ptrOf (ps : List Int) (i off : Int) : Int := if i < 0 ∨ ps.length = 0 then off else wrap64 (ps.getD (i % ps.length).toNat 0 + off)
theorem wrap64_bd (x : Int) : -9223372036854775808 ≤ wrap64 x ∧ wrap64 x ≤ 9223372036854775807 := by unfold wrap64; omega
theorem ptrOf_bd (ps : List Int) (i off : Int) (h : off ≤ 9223372036854775807) : ptrOf ps i off ≤ 9223372036854775807 := by
  unfold ptrOf; split
  · exact h
  · exact (wrap64_bd _).2

set_option maxRecDepth 100000 in
set_option maxHeartbeats 800000 in
theorem pointer_any (q : Nat) (x0 x1 vp x3 : Value) (ps : List Int) (i off : Int) (w : World) (hb : Blk w q 33 [x0, x1, vp, x3]) (hp : w.ownsRow 0 3 1 vp ps.length (ps.map (Value.int .i64))) :
    Calls Try.prog 81 #[.pointer (some ⟨q, 0, none⟩), .int .i64 i, .int .i64 off] w fun e w' => e = .returned (.int .i64 (ptrOf ps i off)) ∧ Below w.heap.size w w' := by
  have c2 := hb.cell (j := 2) rfl
  obtain ⟨a, cap, rfl, hcap, hmax, hrow⟩ := row_open hp
  unfold maxLen at hmax
  by_cases h0 : i < 0
  · have hf : Hid (ptrOf ps i off = off) := if_pos (.inl h0)
    clear hrow hb hp
    go_enter Try.func81, Try.ntmps81
    go_wp2
    go_ret
    exact ⟨ret_int hf.out.symm, Below.refl _ _⟩
  · by_cases hl : ps.length = 0
    · have hf : Hid (ptrOf ps i off = off) := if_pos (.inr hl)
      have hl2 : (((ps.length : Nat) : Int) == 0) = true := by rw [hl]; rfl
      have i0 : 0 ≤ i := by omega
      clear hrow hb hp hl
      go_enter Try.func81, Try.ntmps81
      go_wp2
      all_goals
        go_ret
        exact ⟨ret_int hf.out.symm, Below.refl _ _⟩
    · have hf : Hid (ptrOf ps i off = wrap64 (ps.getD (i % ps.length).toNat 0 + off)) := if_neg (by omega)
      have hl2 : (((ps.length : Nat) : Int) == 0) = false := by rw [beq_eq_false_iff_ne]; omega
      obtain ⟨g, rfl, hgl, hcell, _⟩ := hrow (by omega)
      have i0 : 0 ≤ i := by omega
      have hlp : 0 < (ps.length : Int) := by omega
      have m0 : 0 ≤ i % (ps.length : Int) := Int.emod_nonneg _ (by omega)
      have m1 : i % (ps.length : Int) < (ps.length : Int) := Int.emod_lt_of_pos _ (by omega)
      have ci := hcell (i % (ps.length : Int)).toNat (.int .i64 (ps.getD (i % ps.length).toNat 0)) (by
        rw [List.getElem?_map, List.getElem?_eq_getElem (by omega)]
        simp [List.getD_eq_getElem?_getD, List.getElem?_eq_getElem (show (i % (ps.length : Int)).toNat < ps.length by omega)])
      generalize ps.getD (i % ps.length).toNat 0 = y at *
      clear hcell hb hp hl
      go_enter Try.func81, Try.ntmps81
      go_wp2
      go_quiet (fail)
      go_wp2
      go_ret
      exact ⟨ret_int hf.out.symm, below_drewN (Below.refl _ _) _⟩

theorem info_int : (Try.prog.info? 3).map (fun i => (i.zero, i.size, i.bytes)) = some (some (.int .i64 0), 1, 8) := by kernel_rfl

set_option maxRecDepth 100000 in
set_option maxHeartbeats 800000 in
theorem out_no (q : Nat) (p e : Int) (w : World) (he : e ≠ 0) :
    Calls Try.prog 106 #[.pointer (some ⟨q, 0, none⟩), .int .i64 p, .int .i64 e] w fun e' w' => e' = .returned (.tuple #[]) ∧ w = w' := by
  have he0 : (e == 0) = false := by rw [beq_eq_false_iff_ne]; exact he
  clear he
  go_enter Try.func106, Try.ntmps106
  go_wp2
  go_end0
  exact ⟨rfl, rfl⟩

set_option maxRecDepth 100000 in
set_option maxHeartbeats 800000 in
theorem out_yes (q : Nat) (x0 x1 vp x3 : Value) (ps : List Int) (p : Int) (w : World) (hb : Blk w q 33 [x0, x1, vp, x3]) (hp : w.ownsRow 0 3 1 vp ps.length (ps.map (Value.int .i64))) (hq : vp.ownBlock ≠ some q) (hroom : (ps.length + 1) * 8 ≤ 140737488355328) :
    Calls Try.prog 106 #[.pointer (some ⟨q, 0, none⟩), .int .i64 p, .int .i64 0] w fun e' w' => ∃ vp', e' = .returned (.tuple #[]) ∧ Blk w' q 33 [x0, x1, vp', x3] ∧ w'.ownsRow 0 3 1 vp' (ps ++ [p]).length ((ps ++ [p]).map (Value.int .i64)) ∧
      vp'.ownBlock ≠ some q ∧ Kept w w' (fun b => b = q ∨ vp.ownBlock = some b) ∧ NewBlk vp vp' w := by
  obtain ⟨i0, hi0, hz0, hz1, hz2⟩ := info_parts info_int
  have c2 := hb.cell (j := 2) rfl
  have f2 := hb.frozen 2
  have hql := hb.lt
  have HB := hide2 hb
  have HP := hide2 hp
  have HQ := hide2 hq
  clear hb hp hq
  go_enter Try.func106, Try.ntmps106
  go_wp2_with (at_builtin; refine wpList_append_lies _ rfl _ _ _ rfl 0 3 i0 _ 1 8 Try.underlying30 hi0 hz0 hz1 hz2 rfl (by omega) vp ps.length (ps.map (Value.int .i64)) rfl (HP.out.alloc _) ⟨w.heap.size, 0, none⟩ 1 1 [.int .i64 p] rfl rfl (World.news_of_block (cs := #[.int .i64 p]) (t := 3) (fr := (0, 0)) (heap_alloc_new w _)) (by simp [Value.oneCell']) (by omega) (by simp [maxLen]; omega) (by omega) (by simp) (w.heap.size + 1) (by simp) ?_; intro gg cap2 w7 hown hgrow hat hlt7; have c2' : w7.cell? ⟨q, 2, none⟩ = some vp := (by rw [hgrow.cell_far _ (by simp; omega) (fun e => HQ.out e.symm), World.cell?_alloc_lt _ _ _ hql]; exact c2); have f2' : w7.frozen? ⟨q, 2, none⟩ = false := (by rw [hgrow.frozen_far _ (by simp; omega) (fun e => HQ.out e.symm), World.frozen?_alloc_old _ _ _ (by show q ≠ _; omega)]; exact f2))
  go_end0
  have hsz := hgrow.size
  rw [World.size_alloc] at hsz
  have hgq : gg ≠ q := by
    rcases hat with e | e
    · intro e2; subst e2; exact HQ.out e
    · omega
  refine ⟨.slice (some ⟨gg, 0, none⟩) (ps.length + 1) cap2, rfl, ?_, ?_, ?_, ?_, ?_⟩
  · have e : Blk w7 q 33 [x0, x1, vp, x3] := ((hgrow.block q (by rw [World.size_alloc]; omega) (fun e => HQ.out e.symm)).trans (Below.heap_alloc w _ q hql)).trans HB.out
    exact e.setCell 2 _
  · refine row_kept ?_ (fun g hg => Below.heap_setCell w7 _ _ g (by simp [Value.ownBlock] at hg; show g ≠ q; omega))
    simpa using hown
  · simp [Value.ownBlock]; exact hgq
  · refine ⟨hgrow.os, hgrow.tape, hgrow.output, by rw [World.size_setCell]; omega, fun k hk hs => ?_⟩
    rw [Below.heap_setCell w7 _ _ k (fun e => hs (.inl e)), hgrow.block k (by rw [World.size_alloc]; omega) (fun e => hs (.inr e.symm))]
    exact Below.heap_alloc w _ k hk
  · intro g hg
    simp [Value.ownBlock] at hg
    subst hg
    rcases hat with e | e
    · exact .inl e
    · right; omega
end Go.Proofs.Ytjikemhmnkckcaa
