import Derived.Test.YtjikemhmnkckcabGreatJ17
namespace Go.Proofs.YtjikemhmnkckcabGreat
open Go.RowKit
def mkNo : Int × Int × Int := (0, 0, 0)
namespace Ref
def byteTo (marks : List (Int × Int × Int)) (addr since : Int) : Nat → Int
 | 0 => 0
 | n + 1 => if (marks.getD n mkNo).1 = addr ∧ since ≤ (marks.getD n mkNo).2.2 then (marks.getD n mkNo).2.1 else byteTo marks addr since n
def sinceAt (st : Int) (cls : List (Int × Int)) (log : List Ev) (addr : Int) : Int :=
 if (Cf.slot st cls addr).1 < 0 then 0 else given log (Cf.slot st cls addr).1 (Cf.slot st cls addr).2 + 1
end Ref
def RSt.byte (R : RSt) (addr : Int) : Int := Ref.byteTo R.marks addr (Ref.sinceAt R.st R.cls R.log addr) R.marks.length
def RSt.mark (R : RSt) (addr b : Int) : RSt := ⟨R.st, R.rest, R.cls, R.log, R.marks ++ [(addr, b, (R.log.length : Int))]⟩
end Go.Proofs.YtjikemhmnkckcabGreat
namespace Go.Proofs.YtjikemhmnkckcabGreat
open Go.RowKit
namespace Ref
def shapeB (n : Int) : Bool := n == 1 || n == 2 || n == 4 || n == 8
def accFrom (tag : Int → Int) (t a : Int) : Nat → Nat → Int × Int
 | 0, _ => (0, 0)
 | f + 1, i => if tag (a + i) = -1 then (6, a + i) else if tag (a + i) = 15 ∨ tag (a + i) ≠ t then (7, a + i) else accFrom tag t a f (i + 1)
end Ref
def RSt.tag (R : RSt) (addr : Int) : Int := Cf.tag R.st R.cls R.log addr
def RSt.access (R : RSt) (q n : Int) : Int × Int :=
 if n < 0 ∨ 65536 < n then (2, 0) else if n = 0 then (0, 0) else if Ref.tameB q then Ref.accFrom R.tag (q / 72057594037927936) (q % 72057594037927936) n.toNat 0 else (5, 0)
theorem shape_of {n : Int} (h : Ref.shapeB n = true) : n = 1 ∨ n = 2 ∨ n = 4 ∨ n = 8 := by simpa [Ref.shapeB, or_assoc] using h
end Go.Proofs.YtjikemhmnkckcabGreat
namespace Go.Proofs.YtjikemhmnkckcabGreat
open Go.RowKit
namespace Cf
theorem inS_gran (st : Int) (cls : List (Int × Int)) (addr : Int) (k s : Nat) : inS st cls (addr - addr % 16) k s = inS st cls addr k s := by
 unfold inS begin_;generalize gran st cls k + (s : Int) * gr cls k = b;generalize gr cls k = g
 congr 1 <;> (rw [decide_eq_decide]; omega)
theorem slotIn_gran (st : Int) (cls : List (Int × Int)) (addr : Int) (k : Nat) : slotIn st cls (addr - addr % 16) k = slotIn st cls addr k := by
 unfold slotIn;rw [show inS st cls (addr - addr % 16) k = inS st cls addr k from funext fun s => inS_gran st cls addr k s]
theorem slotFrom_gran (st : Int) (cls : List (Int × Int)) (addr : Int) (f k : Nat) : slotFrom st cls (addr - addr % 16) f k = slotFrom st cls addr f k := by
 induction f generalizing k with
 | zero => rfl
 | succ f ih => simp only [slotFrom, slotIn_gran, ih]
theorem slot_gran (st : Int) (cls : List (Int × Int)) (addr : Int) : slot st cls (addr - addr % 16) = slot st cls addr := slotFrom_gran _ _ _ _ _
theorem tag_gran (st : Int) (cls : List (Int × Int)) (log : List Ref.Ev) (addr : Int) : tag st cls log (addr - addr % 16) = tag st cls log addr := by
 unfold tag;rw [slot_gran];generalize (slot st cls addr).1 = k;generalize (slot st cls addr).2 = s
 have e : (begin_ st cls k.toNat s + 16 * (log.getD (Ref.given log k s).toNat Ref.Ev.no).size ≤ addr - addr % 16) ↔ (begin_ st cls k.toNat s + 16 * (log.getD (Ref.given log k s).toNat Ref.Ev.no).size ≤ addr) := by
  unfold begin_;generalize gran st cls k.toNat + s * gr cls k.toNat = b;generalize (log.getD (Ref.given log k s).toNat Ref.Ev.no).size = z;omega
 have e2 : (16 ≤ addr - addr % 16 ∧ addr - addr % 16 < 16 * (1 + st)) ↔ (16 ≤ addr ∧ addr < 16 * (1 + st)) := by omega
 simp only [e, e2]
end Cf
theorem RSt.tag_same (R : RSt) (a b : Int) (h : a / 16 = b / 16) : R.tag a = R.tag b := by
 unfold RSt.tag;rw [← Cf.tag_gran R.st R.cls R.log a, ← Cf.tag_gran R.st R.cls R.log b, show a - a % 16 = b - b % 16 by omega]
def touchE (tg t : Int) : Int := if tg = -1 then 6 else if tg = 15 ∨ tg ≠ t then 7 else 0
namespace Ref
theorem accFrom_skip (tag : Int → Int) (t a : Int) (d f i : Nat) (hd : d ≤ f) (h : ∀ j : Nat, i ≤ j → j < i + d → touchE (tag (a + j)) t = 0) : accFrom tag t a f i = accFrom tag t a (f - d) (i + d) := by
 induction d generalizing f i with
 | zero => rfl
 | succ d ih =>
   obtain ⟨f', rfl⟩ : ∃ f', f = f' + 1 := ⟨f - 1, by omega⟩
   have h0 := h i (by omega) (by omega)
   have e : accFrom tag t a (f' + 1) i = accFrom tag t a f' (i + 1) := by
    unfold touchE at h0;simp only [accFrom]
    by_cases h1 : tag (a + i) = -1
    ·rw [if_pos h1] at h0; simp at h0
    ·rw [if_neg h1] at h0 ⊢
     by_cases h2 : tag (a + i) = 15 ∨ tag (a + i) ≠ t
     ·rw [if_pos h2] at h0; simp at h0
     ·rw [if_neg h2]
   rw [e, ih f' (i + 1) (by omega) (fun j h1 h2 => h j (by omega) (by omega)), show f' + 1 - (d + 1) = f' - d by omega, show i + 1 + d = i + (d + 1) by omega]
theorem accFrom_stop (tag : Int → Int) (t a : Int) (f i : Nat) (hf : 0 < f) (h : touchE (tag (a + i)) t ≠ 0) : accFrom tag t a f i = (touchE (tag (a + i)) t, a + i) := by
 obtain ⟨f', rfl⟩ : ∃ f', f = f' + 1 := ⟨f - 1, by omega⟩
 simp only [accFrom];unfold touchE at h ⊢
 by_cases h1 : tag (a + i) = -1
 ·rw [if_pos h1, if_pos h1]
 ·rw [if_neg h1] at h ⊢
  by_cases h2 : tag (a + i) = 15 ∨ tag (a + i) ≠ t
  ·rw [if_pos h2, if_neg h1, if_pos h2]
  ·rw [if_neg h2] at h; exact absurd rfl h
end Ref
def onward (a : Int) (i : Nat) : Nat := i + (16 - (a + (i : Int)) % 16).toNat
theorem onward_step (R : RSt) (t a n : Int) (i : Nat) (_a0 : 0 ≤ a) (hlt : (i : Int) < n) :
 (touchE (R.tag (a + i)) t ≠ 0 → Ref.accFrom R.tag t a (n.toNat - i) i = (touchE (R.tag (a + i)) t, a + i)) ∧
 (touchE (R.tag (a + i)) t = 0 → Ref.accFrom R.tag t a (n.toNat - i) i = Ref.accFrom R.tag t a (n.toNat - onward a i) (onward a i)) := by
 constructor
 ·intro h;exact Ref.accFrom_stop R.tag t a _ _ (by omega) h
 ·intro h
  have same : ∀ j : Nat, i ≤ j → j < onward a i → R.tag (a + j) = R.tag (a + i) := fun j h1 h2 => by
   refine R.tag_same _ _ ?_;unfold onward at h2;omega
  have h01 : i < onward a i := by unfold onward; omega
  by_cases hle : onward a i ≤ n.toNat
  ·have e := Ref.accFrom_skip R.tag t a (onward a i - i) (n.toNat - i) i (by omega) (fun j h1 h2 => by rw [same j h1 (by omega)]; exact h);rw [e]
   congr 1 <;> omega
  ·have e := Ref.accFrom_skip R.tag t a (n.toNat - i) (n.toNat - i) i (by omega) (fun j h1 h2 => by rw [same j h1 (by omega)]; exact h);rw [e, show n.toNat - i - (n.toNat - i) = 0 by omega, show n.toNat - onward a i = 0 by omega];rfl
set_option maxRecDepth 100000 in
set_option maxHeartbeats 800000 in
theorem touch_any (p : Nat) (vc : Value) (bb : Nat) (G : GSt) (R : RSt) (addr t : Int) (w : World) (h : GRep w p vc bb G) (hs : Sim G R) (a0 : -9223372036854775808 ≤ addr) (a1 : addr ≤ 9223372036854775807) :
 Calls Tryz.prog 160 #[.pointer (some ⟨p, 0, none⟩), .int .i64 addr, .int .i64 t] w fun e w' => e = .returned (.int .i64 (touchE (R.tag addr) t)) ∧ Below w.heap.size w w' := by
 have HR := hide2 h;have HS := hide2 hs;have HTG : Hid (gtag G R.cls addr = R.tag addr) := hs.tag addr;clear h hs;have HF : Hid (touchE (R.tag addr) t = if R.tag addr = -1 then 6 else if R.tag addr = 15 ∨ R.tag addr ≠ t then 7 else 0) := rfl;generalize touchE (R.tag addr) t = res at *;generalize R.tag addr = tg at *
 by_cases h1 : tg = -1
 ·have HF2 : Hid (res = 6) := HF.out.trans (if_pos h1);have hb1 : (tg == -1) = true := by simp [h1]
  clear HF h1;go_enter Tryz.func160, Tryz.ntmps160
  go_wp2_with (go_at_call 163; refine (gtag_any p vc bb G R.rest R.cls addr w HR.out HS.out.ok HS.out.bd a0 a1).mono ?_; rw [HTG.out]; rintro e2 w2 ⟨rfl, hb2⟩)
  go_ret;exact ⟨by rw [HF2.out]; rfl, hb2⟩
 ·have hb1 : (tg == -1) = false := by rw [beq_eq_false_iff_ne]; exact h1
  by_cases h2 : tg = 15 ∨ tg ≠ t
  ·have HF2 : Hid (res = 7) := HF.out.trans ((if_neg h1).trans (if_pos h2));clear HF h1
   by_cases h3 : tg = 15
   ·have hb3 : (tg == 15) = true := by simp [h3]
    clear h2 h3;go_enter Tryz.func160, Tryz.ntmps160
    go_wp2_with (go_at_call 163; refine (gtag_any p vc bb G R.rest R.cls addr w HR.out HS.out.ok HS.out.bd a0 a1).mono ?_; rw [HTG.out]; rintro e2 w2 ⟨rfl, hb2⟩)
    go_ret;exact ⟨by rw [HF2.out]; rfl, hb2⟩
   ·have hb3 : (tg == 15) = false := by rw [beq_eq_false_iff_ne]; exact h3
    have hb4 : (tg != t) = true := by simp; omega
    clear h2 h3;go_enter Tryz.func160, Tryz.ntmps160
    go_wp2_with (go_at_call 163; refine (gtag_any p vc bb G R.rest R.cls addr w HR.out HS.out.ok HS.out.bd a0 a1).mono ?_; rw [HTG.out]; rintro e2 w2 ⟨rfl, hb2⟩)
    go_ret;exact ⟨by rw [HF2.out]; rfl, hb2⟩
  ·have HF2 : Hid (res = 0) := HF.out.trans ((if_neg h1).trans (if_neg h2));have hb3 : (tg == 15) = false := by rw [beq_eq_false_iff_ne]; omega
   have hb4 : (tg != t) = false := by simp; omega
   clear HF h1 h2;go_enter Tryz.func160, Tryz.ntmps160
   go_wp2_with (go_at_call 163; refine (gtag_any p vc bb G R.rest R.cls addr w HR.out HS.out.ok HS.out.bd a0 a1).mono ?_; rw [HTG.out]; rintro e2 w2 ⟨rfl, hb2⟩)
   go_ret;exact ⟨by rw [HF2.out]; rfl, hb2⟩
theorem within_len {n : Int} : withinB n 0 65536 = false ↔ (n < 0 ∨ 65536 < n) := by
 unfold withinB;rw [Bool.and_eq_false_iff, decide_eq_false_iff_not, decide_eq_false_iff_not]; omega
theorem within_any' (n lo hi : Int) (w : World) : Calls Tryz.prog 52 #[.int .i64 n, .int .i64 lo, .int .i64 hi] w fun e w' => e = .returned (.bool (withinB n lo hi)) ∧ w = w' :=
 (within_any n lo hi w).mono (fun _ _ h => ⟨h.1, h.2.symm⟩)
set_option maxRecDepth 100000 in
theorem nextGranule_any (a : Int) (w : World) (a0 : 0 ≤ a) (a1 : a ≤ 1000000) :
 Calls Tryz.prog 161 #[.int .i64 a] w fun e w' => e = .returned (.int .i64 (a - a % 16 + 16)) ∧ w = w' := by
 go_enter Tryz.func161, Tryz.ntmps161;go_wp2;go_ret;exact ⟨rfl, rfl⟩
set_option maxRecDepth 100000 in
set_option maxHeartbeats 1600000 in
theorem gdecide_any (p : Nat) (vc : Value) (bb : Nat) (G : GSt) (R : RSt) (q n : Int) (w : World) (h : GRep w p vc bb G) (hs : Sim G R) (q1 : q ≤ 9223372036854775807) :
 Calls Tryz.prog 148 #[.pointer (some ⟨p, 0, none⟩), .int .i64 q, .int .i64 n] w fun e w' => e = .returned (.tuple #[.int .i64 (R.access q n).2, .int .i64 (R.access q n).1]) ∧ Below w.heap.size w w' := by
 have HR := hide2 h;have HS := hide2 hs;clear h hs
 by_cases ha : n < 0 ∨ 65536 < n
 ·have HA : Hid (R.access q n = (2, 0)) := by show _ = _; unfold RSt.access; rw [if_pos ha]
  have HW := hide2 (within_len.2 ha);clear ha;go_enter Tryz.func148, Tryz.ntmps148
  go_wp2_with (go_at_call 52; refine (within_any' n 0 65536 w).mono ?_; rw [HW.out]; rintro e1 w1 ⟨rfl, rfl⟩)
  go_ret2;exact ⟨by rw [HA.out]; rfl, Below.refl _ _⟩
 ·have hn0 : 0 ≤ n := by omega
  have hn1 : n ≤ 65536 := by omega
  have HW : Hid (withinB n 0 65536 = true) := by
   show _ = _
   cases e : withinB n 0 65536
   ·exact absurd (within_len.1 e) ha
   ·rfl
  by_cases hz : n = 0
  ·have HA : Hid (R.access q n = (0, 0)) := by show _ = _; unfold RSt.access; rw [if_neg ha, if_pos hz]
   clear ha;subst hz;go_enter Tryz.func148, Tryz.ntmps148
   go_wp2_with (go_at_call 52; refine (within_any' 0 0 65536 w).mono ?_; rw [HW.out]; rintro e1 w1 ⟨rfl, rfl⟩)
   go_ret2;exact ⟨by rw [HA.out]; rfl, Below.refl _ _⟩
  ·have hzb : (n == 0) = false := by rw [beq_eq_false_iff_ne]; exact hz
   have hnp : 0 < n := by omega
   cases ht : Ref.tameB q
   ·have HA : Hid (R.access q n = (5, 0)) := by show _ = _; unfold RSt.access; rw [if_neg ha, if_neg hz, ht]; rfl
    have HT := hide2 ht;clear ha hz ht;go_enter Tryz.func148, Tryz.ntmps148
    go_wp2_with fail
    refine (within_any' n 0 65536 w).mono ?_;rw [HW.out];rintro e1 w1 ⟨rfl, rfl⟩
    go_wp2_with (go_at_call 156; refine (isTame_any q _ q1).mono ?_; rw [HT.out]; rintro e1 w1 ⟨rfl, rfl⟩)
    go_ret2;exact ⟨by rw [HA.out]; rfl, Below.refl _ _⟩
   ·have HA : Hid (R.access q n = Ref.accFrom R.tag (q / 72057594037927936) (q % 72057594037927936) (n.toNat - 0) 0) := by show _ = _; unfold RSt.access; rw [if_neg ha, if_neg hz, ht]; rfl
    have htm := (tame_iff q).1 ht;have HT := hide2 ht;have q0 : 0 ≤ q := htm.1;have a0 : 0 ≤ q % 72057594037927936 := by omega
    have a1 : q % 72057594037927936 ≤ 65535 := htm.2.2;clear ha hz ht htm;go_enter Tryz.func148, Tryz.ntmps148
    go_wp2_with fail
    refine (within_any' n 0 65536 w).mono ?_;rw [HW.out];rintro e1 w1 ⟨rfl, rfl⟩
    go_wp2_with fail
    refine (isTame_any q _ q1).mono ?_;rw [HT.out];rintro e1 w1 ⟨rfl, rfl⟩;go_wp2
    go_loopw [8] (fun i wr => ∃ m : Nat, (m : Int) ≤ n + 16 ∧ i = .int .i64 (q % 72057594037927936 + (m : Int)) ∧ Hid (R.access q n = Ref.accFrom R.tag (q / 72057594037927936) (q % 72057594037927936) (n.toNat - m) m) ∧ Below w.heap.size w wr) (fun i _ => (q % 72057594037927936 + n - intOf i).toNat)
    case atStart => exact ⟨0, by omega, by simp, HA.out, Below.refl _ _⟩
    case round =>
     obtain ⟨m, hm, rfl, hA, hb⟩ := hrel;have HRr := hide2 (HR.out.below hb)
     by_cases hlt : (m : Int) < n
     ·have hst := onward_step R (q / 72057594037927936) (q % 72057594037927936) n m a0 hlt;have HS1 := hide2 hst.1;have HS2 := hide2 hst.2;have at0 : 0 ≤ q % 72057594037927936 + (m : Int) := by omega
      have at1 : q % 72057594037927936 + (m : Int) ≤ 1000000 := by omega
      have hlt2 : q % 72057594037927936 + (m : Int) < q % 72057594037927936 + n := by omega
      obtain ⟨at_, hat⟩ : ∃ at_, at_ = q % 72057594037927936 + (m : Int) := ⟨_, rfl⟩
      have HATD := hide2 hat;rw [← hat] at hlt2 at0 at1 HS1 HS2 ⊢;clear hst hat hm;have ON : Hid (onward (q % 72057594037927936) m = m + (16 - (q % 72057594037927936 + (m : Int)) % 16).toNat) := rfl
      by_cases hz : touchE (R.tag at_) (q / 72057594037927936) = 0
      ·have HZ := hide2 hz;clear hz
       go_wp2_with (first
        | (go_at_call 160; refine (touch_any p vc bb G R at_ (q / 72057594037927936) wr HRr.out HS.out (by omega) (by omega)).mono ?_; rw [HZ.out]; rintro e2 w2 ⟨rfl, hb2⟩)
        | (go_at_call 161; refine (nextGranule_any at_ _ at0 at1).mono ?_; rintro e3 w3 ⟨rfl, rfl⟩))
       go_roundw
       case rel => exact ⟨onward (q % 72057594037927936) m, by rw [ON.out]; omega, by rw [ON.out, HATD.out]; congr 1; omega, by show _ = _; rw [hA.out, HS2.out HZ.out], hb.trans (hb2.mono hb.size)⟩
       case measure => simp [intOf]; omega
      ·have HZ := hide2 hz;have hzb2 : (touchE (R.tag at_) (q / 72057594037927936) != 0) = true := by simp [hz]
       clear hz
       go_wp2_with (go_at_call 160; refine (touch_any p vc bb G R at_ (q / 72057594037927936) wr HRr.out HS.out (by omega) (by omega)).mono ?_; rintro e2 w2 ⟨rfl, hb2⟩)
       go_ret2;exact ⟨by rw [hA.out, HS1.out HZ.out]; first | rfl | (rw [HATD.out]; rfl), hb.trans (hb2.mono hb.size)⟩
     ·have HF : Hid (R.access q n = (0, 0)) := by
       show _ = _;rw [hA.out, show n.toNat - m = 0 by omega];rfl
      have at0 : 0 ≤ q % 72057594037927936 + (m : Int) := by omega
      have at1 : q % 72057594037927936 + (m : Int) ≤ 1000000 := by omega
      have hge : q % 72057594037927936 + n ≤ q % 72057594037927936 + (m : Int) := by omega
      clear hA HA;generalize q % 72057594037927936 + (m : Int) = at_ at *;go_wp2;go_ret2;exact ⟨by rw [HF.out]; rfl, hb⟩
set_option maxRecDepth 100000 in
theorem gaccess_any (p : Nat) (vc : Value) (bb : Nat) (G : GSt) (R : RSt) (q n : Int) (w : World) (h : GRep w p vc bb G) (hs : Sim G R) (q1 : q ≤ 9223372036854775807) :
 Calls Tryz.prog 119 #[.pointer (some ⟨p, 0, none⟩), .int .i64 q, .int .i64 n] w fun e w' => e = .returned (.int .i64 (R.access q n).1) ∧ Below w.heap.size w w' := by
 have HR := hide2 h;have HS := hide2 hs;clear h hs;go_enter Tryz.func119, Tryz.ntmps119
 go_wp2_with (go_at_call 148; refine (gdecide_any p vc bb G R q n w HR.out HS.out q1).mono ?_; rintro e2 w2 ⟨rfl, hb2⟩)
 go_ret;exact ⟨rfl, hb2⟩
end Go.Proofs.YtjikemhmnkckcabGreat
