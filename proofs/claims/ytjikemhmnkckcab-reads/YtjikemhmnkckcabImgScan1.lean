import Derived.Test.YtjikemhmnkckcabImgRead3
import Derived.Test.YtjikemhmnkckcabImgLaw3
import Derived.Deep.CutRange
/- The program's scanner: a byte, the head. -/
namespace Go.Proofs.Ytjikemhmnkckcab
open Go.RowKit

/-- The scanner behind k bytes that it was asked for; bad: the head is another's. -/
def scV (d : ByteArray) (k : Nat) (bad : Bool) : List Value := [.string d, .int .i64 ((min k d.size : Nat) : Int), .bool (bad || decide (d.size < k))]

theorem Kept.drewN {w w' : World} {S : Nat → Prop} (h : Kept w w' S) (n : Nat) : Kept w (w'.drewN n) S := ⟨h.os, h.tape, h.output, h.size, h.block⟩

set_option maxRecDepth 100000 in
set_option maxHeartbeats 800000 in
theorem next_any (q : Nat) (d : ByteArray) (k : Nat) (bad : Bool) (w : World) (h : Blk w q 59 (scV d k bad)) (hd : (d.size : Int) ≤ 9223372036854775807) :
    Calls Try.prog 48 #[.pointer (some ⟨q, 0, none⟩)] w fun e w' => e = .returned (.int .i64 (byteAt d k)) ∧ Blk w' q 59 (scV d (k + 1) bad) ∧ Kept w w' (· = q) ∧ w'.heap.size = w.heap.size := by
  have H := hide2 h
  have c0 := h.cell (j := 0) rfl
  have c1 := h.cell (j := 1) rfl
  have c2 := h.cell (j := 2) rfl
  have f1 := h.frozen 1
  have f2 := h.frozen 2
  clear h
  by_cases hk : k < d.size
  · have e1 : min k d.size = k := by omega
    rw [e1] at c1
    have hI : (k : Int) < (d.size : Int) := by omega
    have hv : byteAt d k = (d[k].toNat : Int) := byteAt_lt hk
    have hb := byteAt_bd d k
    rw [hv] at hb
    have HV := hide2 hv
    clear hv e1
    go_enter Try.func48, Try.ntmps48
    go_wp2
    go_quiet (fail)
    go_wp2
    go_quiet (fail)
    go_wp2
    go_ret
    have hb2 := fun n => (show Blk (w.drewN n) q 59 (scV d k bad) from H.out).setCell 1 (.int .i64 ((k : Int) + 1))
    rw [show (scV d k bad).set 1 (.int .i64 ((k : Int) + 1)) = scV d (k + 1) bad by
      unfold scV
      rw [show min (k + 1) d.size = k + 1 by omega, show decide (d.size < k) = false by simp; omega, show decide (d.size < k + 1) = false by simp; omega]
      simp] at hb2
    exact ⟨by rw [HV.out]; rfl, hb2 _, ((Kept.refl w _).drewN _).setCell _ _ rfl, by simp⟩
  · have e1 : min k d.size = d.size := by omega
    rw [e1] at c1
    have hI : (d.size : Int) ≤ (d.size : Int) := by omega
    have HV := hide2 (byteAt_ge (d := d) (k := k) (by omega))
    clear e1
    go_enter Try.func48, Try.ntmps48
    go_wp2
    go_quiet (fail)
    go_wp2
    go_ret
    have hb2 := fun n => (show Blk (w.drewN n) q 59 (scV d k bad) from H.out).setCell 2 (.bool true)
    rw [show (scV d k bad).set 2 (.bool true) = scV d (k + 1) bad by
      unfold scV
      rw [show min (k + 1) d.size = min k d.size by omega, show decide (d.size < k + 1) = true by simp; omega]
      simp] at hb2
    exact ⟨by rw [HV.out]; rfl, hb2 _, ((Kept.refl w _).drewN _).setCell _ _ rfl, by simp⟩

/-- Is the head another's, as far as m bytes? -/
def badH (d : ByteArray) : Nat → Bool
  | 0 => false
  | 1 => !(byteAt d 0 == 71)
  | _ => !(byteAt d 0 == 71) || !(byteAt d 1 == 82)
theorem badH_two (d : ByteArray) : badH d 2 = !pHead d := by unfold badH pHead; simp
theorem badH_step (d : ByteArray) (m : Nat) (hm : m < 2) : badH d (m + 1) = (badH d m || !(byteAt d m == (if m = 0 then 71 else 82))) := by
  rcases (show m = 0 ∨ m = 1 by omega) with rfl | rfl <;> simp [badH]
theorem scV_bad (d : ByteArray) (k : Nat) (b : Bool) : (scV d k b).set 2 (.bool true) = scV d k true := by simp [scV]

set_option maxRecDepth 100000 in
set_option maxHeartbeats 1600000 in
theorem head_any (q : Nat) (d : ByteArray) (w : World) (h : Blk w q 59 (scV d 0 false)) (hd : (d.size : Int) ≤ 9223372036854775807) :
    Calls Try.prog 37 #[.pointer (some ⟨q, 0, none⟩)] w fun e w' => e = .returned (.tuple #[]) ∧ Blk w' q 59 (scV d 2 (!pHead d)) ∧ Kept w w' (· = q) ∧ w'.heap.size = w.heap.size := by
  have g0 : wrap64 (((⟨#[71, 82]⟩ : ByteArray)[0]'(by decide)).toNat : Int) = 71 := by kernel_rfl
  have g1 : wrap64 (((⟨#[71, 82]⟩ : ByteArray)[1]'(by decide)).toNat : Int) = 82 := by kernel_rfl
  have H := hide2 h
  clear h
  go_enter Try.func37, Try.ntmps37
  go_wp2
  go_loopw [2] (fun i wr => ∃ m : Nat, m ≤ 2 ∧ i = .int .i64 (m : Int) ∧ Hid (Blk wr q 59 (scV d m (badH d m))) ∧ Hid (Kept w wr (· = q)) ∧ Hid (wr.heap.size = w.heap.size)) (fun i _ => 2 - (intOf i).toNat)
  case atStart => exact ⟨0, by omega, rfl, H, Kept.refl _ _, rfl⟩
  case round =>
    obtain ⟨m, hm, rfl, HR, HK, HZ⟩ := hrel
    by_cases hlt : m < 2
    · have HBD := hide2 (badH_step d m hlt)
      have hbb := byteAt_bd d m
      rcases (show m = 0 ∨ m = 1 by omega) with rfl | rfl
      · go_upto_region 4 with (go_at_call 48; refine (next_any q d _ _ _ HR.out hd).mono ?_; rintro e1 w1 ⟨rfl, hb1, hk1, hz1⟩; have HB1 := hide2 hb1; have HK1 : Hid (Kept w w1 (· = q)) := HK.out.trans hk1; have HZ1 : Hid (w1.heap.size = w.heap.size) := hz1.trans HZ.out; have c2 := hb1.cell (j := 2) rfl; have f2 := hb1.frozen 2; clear hb1 hk1 hz1)
        by_cases he : byteAt d 0 = 71
        · have HN : Hid (badH d (0 + 1) = badH d 0) := by show _ = _; rw [HBD.out, he]; simp
          rw [he]
          clear he hbb
          go_wp2
          go_roundw
          case rel => exact ⟨0 + 1, by omega, by go_num, by rw [HN.out]; exact HB1, HK1, HZ1⟩
          case measure => simp [intOf]
        · have HN : Hid (badH d (0 + 1) = true) := by show _ = _; rw [HBD.out]; simp [he]
          have hx : (byteAt d 0 != 71) = true := by simpa using he
          generalize byteAt d 0 = x at *
          go_wp2
          go_roundw
          case rel => exact ⟨0 + 1, by omega, by go_num, by rw [HN.out, ← scV_bad d (0 + 1) (badH d 0)]; exact HB1.out.setCell 2 _, HK1.out.setCell _ _ rfl, (World.size_setCell _ _ _).trans HZ1.out⟩
          case measure => simp [intOf]
      · go_upto_region 4 with (go_at_call 48; refine (next_any q d _ _ _ HR.out hd).mono ?_; rintro e1 w1 ⟨rfl, hb1, hk1, hz1⟩; have HB1 := hide2 hb1; have HK1 : Hid (Kept w w1 (· = q)) := HK.out.trans hk1; have HZ1 : Hid (w1.heap.size = w.heap.size) := hz1.trans HZ.out; have c2 := hb1.cell (j := 2) rfl; have f2 := hb1.frozen 2; clear hb1 hk1 hz1)
        by_cases he : byteAt d 1 = 82
        · have HN : Hid (badH d (1 + 1) = badH d 1) := by show _ = _; rw [HBD.out, he]; simp
          rw [he]
          clear he hbb
          go_wp2
          go_roundw
          case rel => exact ⟨1 + 1, by omega, by go_num, by rw [HN.out]; exact HB1, HK1, HZ1⟩
          case measure => simp [intOf]
        · have HN : Hid (badH d (1 + 1) = true) := by show _ = _; rw [HBD.out]; simp [he]
          have hx : (byteAt d 1 != 82) = true := by simpa using he
          generalize byteAt d 1 = x at *
          go_wp2
          go_roundw
          case rel => exact ⟨1 + 1, by omega, by go_num, by rw [HN.out, ← scV_bad d (1 + 1) (badH d 1)]; exact HB1.out.setCell 2 _, HK1.out.setCell _ _ rfl, (World.size_setCell _ _ _).trans HZ1.out⟩
          case measure => simp [intOf]
    · obtain rfl : m = 2 := by omega
      rw [badH_two] at HR
      go_wp2
      go_end0
      exact ⟨rfl, HR.out, HK.out, HZ.out⟩
end Go.Proofs.Ytjikemhmnkckcab
