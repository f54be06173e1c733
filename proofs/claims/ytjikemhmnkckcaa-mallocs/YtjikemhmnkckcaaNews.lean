import Derived.Test.YtjikemhmnkckcaaBegin
namespace Go.Proofs.Ytjikemhmnkckcaa
open Go.RowKit

theorem hide {p : Prop} (h : p) : Hid p := h
theorem unhide {p : Prop} (h : Hid p) : p := h

set_option maxRecDepth 100000 in
set_option maxHeartbeats 800000 in
theorem tags_any (q ph : Nat) (gc : Value) (bb : Nat) (G : GSt) (pr : Nat) (vc vl vm : Value) (R : RSt) (vp : Value) (ps : List Int) (vs : Value) (w : World) (h : WRep w q ph gc bb G pr vc vl vm R vp ps vs) :
    Calls Try.prog 18 #[.pointer (some ⟨q, 0, none⟩)] w fun e w' => e = .returned (.bool true) ∧ Below w.heap.size w w' := by
  have HW : Hid (WRep w q ph gc bb G pr vc vl vm R vp ps vs) := h
  have c0 := h.blk.cell (j := 0) rfl
  have c1 := h.blk.cell (j := 1) rfl
  have hq := h.blk.lt
  have HT : Hid (∀ addr, gtag G R.cls addr = Cf.tag R.st R.cls R.log addr) := h.sim.tag
  clear h
  go_enter Try.func18, Try.ntmps18
  go_wp2
  go_loopw [3] (fun i wr => ∃ n : Nat, n ≤ 452 ∧ i = .int .i64 ((n : Int) - 2) ∧ Below w.heap.size w wr) (fun i _ => (450 - intOf i).toNat)
  case atStart => exact ⟨0, by omega, rfl, Below.refl _ _⟩
  case round =>
    obtain ⟨n, hn, rfl, hb⟩ := hrel
    have c0' := (hb.cell (p := ⟨q, 0, none⟩) hq).trans c0
    have c1' := (hb.cell (p := ⟨q, 1, none⟩) hq).trans c1
    have HWr := hide (HW.out.below hb)
    by_cases hlt : n < 452
    · have hl : (n : Int) - 2 < 450 := by omega
      have hlo : -2 ≤ (n : Int) - 2 := by omega
      have e1 : Hid ((n : Int) - 2 + 1 = ((n + 1 : Nat) : Int) - 2) := by show _ = _; omega
      generalize (n : Int) - 2 = x at *
      have hne : (Cf.tag R.st R.cls R.log (16 * x) != Cf.tag R.st R.cls R.log (16 * x)) = false := by simp
      go_wp2_with (first
        | (go_at_call 16; refine (gtag_any ph gc bb G R.rest R.cls _ _ (unhide HWr).g (unhide HWr).sim.ok (unhide HWr).sim.bd (by omega) (by omega)).mono ?_; rw [HT.out]; rintro e w1 ⟨rfl, hb1⟩; have c1'' := (hb1.cell (p := ⟨q, 1, none⟩) (Nat.lt_of_lt_of_le hq hb.size)).trans c1')
        | (go_at_call 17; refine (rtag_any pr vc vl vm R _ _ ((unhide HWr).r.below hb1) (unhide HWr).sim.rok).mono ?_; rintro e w2 ⟨rfl, hb2⟩))
      go_roundw
      case rel => exact ⟨n + 1, by omega, by rw [e1.out], (hb.trans (hb1.mono hb.size)).trans (hb2.mono (Nat.le_trans hb.size hb1.size))⟩
      case measure => simp [intOf]; omega
    · have hl : ¬ (n : Int) - 2 < 450 := by omega
      go_wp2
      go_ret
      exact ⟨rfl, hb⟩

set_option maxRecDepth 100000 in
set_option maxHeartbeats 800000 in
theorem news_any (st rest : Int) (a : Option Addr) (cap : Nat) (cls : List (Int × Int)) (addr : Int) (w : World) (h : CRow w a cap cls) (hreach : cls.length * 16 ≤ 140737488351232) (a0 : -9223372036854775808 ≤ addr) (a1 : addr ≤ 9223372036854775807) :
    Calls Try.prog 3 #[.agg #[.int .i64 st, .int .i64 rest, .slice a cls.length cap], .int .i64 addr] w fun e w' => e = .returned (.bool true) ∧ Below w.heap.size w w' := by
  have HC : Hid (CRow w a cap cls) := h
  clear h
  cases hv : Cf.validB st rest cls
  · go_enter Try.func3, Try.ntmps3
    go_wp2_with (go_at_call 15; refine (begin_no st rest a cap cls _ (HC.out.below ((Below.refl _ _).alloc (Nat.le_refl _) _)) hreach hv).mono ?_; rintro e w1 ⟨rfl, hb1⟩)
    go_ret
    exact ⟨rfl, ((Below.refl _ _).alloc (Nat.le_refl _) _).trans (hb1.mono (by simp))⟩
  · have HV : Hid (Cf.Valid st rest cls) := Cf.valid_of hv
    have hne : (Cf.tag st cls [] addr != Cf.tag st cls [] addr) = false := by simp
    clear hv
    go_enter Try.func3, Try.ntmps3
    go_wp2_with fail
    refine (begin_yes st rest a cap cls _ (HC.out.below ((Below.refl _ _).alloc (Nat.le_refl _) _)) hreach HV.out).mono ?_
    rintro e w1 ⟨q, ph, gc, bb, G, pr, vc, rfl, hW, hb1, hf⟩
    have HW := hide hW
    have hw1 : Below w.heap.size w w1 := ((Below.refl _ _).alloc (Nat.le_refl _) _).trans (hb1.mono (by simp))
    have c0 := hW.blk.cell (j := 0) rfl
    have c1 := hW.blk.cell (j := 1) rfl
    have hq := hW.blk.lt
    have HT : Hid (∀ addr, gtag G cls addr = Cf.tag st cls [] addr) := hW.sim.tag
    clear hW hf hb1
    go_wp2_with (first
      | (go_at_call 16; refine (gtag_any ph gc bb G rest cls _ _ (unhide HW).g (unhide HW).sim.ok (unhide HW).sim.bd a0 a1).mono ?_; rw [HT.out]; rintro e w2 ⟨rfl, hb2⟩; have c1' := (hb2.cell (p := ⟨q, 1, none⟩) hq).trans c1)
      | (go_at_call 17; refine (rtag_any pr vc _ _ ⟨st, rest, cls, [], []⟩ _ _ ((unhide HW).r.below hb2) (unhide HW).sim.rok).mono ?_; rintro e w3 ⟨rfl, hb3'⟩; have hb3 := hb2.trans (hb3'.mono hb2.size); clear hb3')
      | (go_at_call 18; refine (tags_any q ph gc bb G pr vc _ _ _ _ _ _ _ ((unhide HW).below hb3)).mono ?_; rintro e w4 ⟨rfl, hb4'⟩; have hb4 := hb3.trans (hb4'.mono hb3.size); clear hb4'))
    go_ret
    exact ⟨rfl, hw1.trans (hb4.mono hw1.size)⟩
end Go.Proofs.Ytjikemhmnkckcaa
