import Derived.Test.YtjikemhmnkckcaaRefWalks3
import Derived.Test.YtjikemhmnkckcaaMallocMath
import Derived.Test.YtjikemhmnkckcaaRefNew
namespace Go.Proofs.Ytjikemhmnkckcaa
open Go.RowKit

set_option maxRecDepth 100000 in
set_option maxHeartbeats 1000000 in
theorem first_any (p : Nat) (vc vl vm : Value) (R : RSt) (k : Nat) (w : World) (h : RRep w p vc vl vm R) (ho : ROk R) (hk : k < R.cls.length) :
    Calls Try.prog 125 #[.pointer (some ⟨p, 0, none⟩), .int .i64 (k : Int)] w fun e w' => e = .returned (.int .i64 (Ref.first R.log R.rest R.cls k)) ∧ Below w.heap.size w w' := by
  have HR : Hid (RRep w p vc vl vm R) := h
  have c2 := h.blk.cell (j := 2) rfl
  have hp := h.blk.lt
  obtain ⟨a, cap, rfl, hcr⟩ := CRow.of_row h.cls
  obtain ⟨g, off, rfl, hgl, hcell⟩ := hcr.cells ho.conf.n0
  have d1 := (hcell k hk).2
  have n1 := ho.conf.n1
  have s0 := ho.conf.s0 k hk
  have s1 := ho.conf.s1 k hk
  have hkI : (k : Int) < (R.cls.length : Int) := by omega
  clear h ho hcr hcell
  go_enter Try.func125, Try.ntmps125
  go_wp2
  go_loopw [5] (fun i wr => ∃ m f : Nat, m + f = (Cf.sl R.cls k).toNat ∧ i = .int .i64 (m : Int) ∧ Hid (Ref.first R.log R.rest R.cls k = Ref.firstFrom (Ref.openB R.log R.rest k) f m) ∧ Below w.heap.size w wr) (fun i _ => (Cf.sl R.cls k).toNat - (intOf i).toNat)
  case atStart => exact ⟨0, _, by omega, rfl, rfl, Below.refl _ _⟩
  case round =>
    obtain ⟨m, f, hm, rfl, hs, hb⟩ := hrel
    have c2' := (hb.cell (p := ⟨p, 2, none⟩) hp).trans c2
    have d1' := (hb.cell (p := ⟨g, off + k * 2 + 1, none⟩) hgl).trans d1
    cases f with
    | zero =>
      have hm' : ¬ (m : Int) < Cf.sl R.cls k := by omega
      clear hm
      go_wp2
      go_ret
      exact ⟨ret_int hs.out.symm, hb⟩
    | succ f =>
      have hlt : (m : Int) < Cf.sl R.cls k := by omega
      have HM : Hid (m + (f + 1) = (Cf.sl R.cls k).toNat) := hm
      have hst : Hid (Ref.firstFrom (Ref.openB R.log R.rest k) (f + 1) m = if Ref.openB R.log R.rest k m then (m : Int) else Ref.firstFrom (Ref.openB R.log R.rest k) f (m + 1)) := rfl
      have hop : Hid (Ref.openB R.log R.rest k m = ((Ref.state R.log k m != 3) && !Ref.rests R.log R.rest k m)) := rfl
      clear hm
      cases hq1 : (Ref.state R.log k m != 3) <;> cases hq2 : Ref.rests R.log R.rest k m
      case true.false =>
        have hfin : Hid (Ref.first R.log R.rest R.cls k = (m : Int)) := by show _ = _; rw [hs.out, hst.out, hop.out, hq1, hq2]; rfl
        go_wp2_with (first
          | (go_at_call 45; refine (state_any _ _ _ _ _ _ _ _ (HR.out.below hb)).mono ?_; rintro e1 w1 ⟨rfl, hb1'⟩; have hb1 := hb.trans (hb1'.mono hb.size); clear hb1')
          | (go_at_call 128; refine (rests_any _ _ _ _ _ _ _ _ (HR.out.below hb1)).mono ?_; rw [hq2]; rintro e1 w2 ⟨rfl, hb2'⟩; have hb2 := hb1.trans (hb2'.mono hb1.size); clear hb2'))
        go_ret
        exact ⟨ret_int hfin.out.symm, hb2⟩
      all_goals
        have hfin : Hid (Ref.first R.log R.rest R.cls k = Ref.firstFrom (Ref.openB R.log R.rest k) f (m + 1)) := by show _ = _; rw [hs.out, hst.out, hop.out, hq1, hq2]; rfl
        go_wp2_with (first
          | (go_at_call 45; refine (state_any _ _ _ _ _ _ _ _ (HR.out.below hb)).mono ?_; rintro e1 w1 ⟨rfl, hb1'⟩; have hb1 := hb.trans (hb1'.mono hb.size); clear hb1')
          | (go_at_call 128; refine (rests_any _ _ _ _ _ _ _ _ (HR.out.below hb1)).mono ?_; rw [hq2]; rintro e1 w2 ⟨rfl, hb2'⟩; have hb2 := hb1.trans (hb2'.mono hb1.size); clear hb2'))
        go_roundw
        case rel => exact ⟨m + 1, f, by have := HM.out; omega, by go_num, hfin, hb2⟩
        case measure => simp [intOf]; omega
end Go.Proofs.Ytjikemhmnkckcaa
