import Derived.Test.YtjikemhmnkckcabJ15
import Derived.Test.YtjikemhmnkckcabJ5
/- The program's access: a granule at a time. -/
namespace Go.Proofs.Ytjikemhmnkckcab
open Go.RowKit

namespace Cf
theorem inS_gran (st : Int) (cls : List (Int × Int)) (addr : Int) (k s : Nat) : inS st cls (addr - addr % 16) k s = inS st cls addr k s := by
  unfold inS begin_
  generalize gran st cls k + (s : Int) * gr cls k = b
  generalize gr cls k = g
  congr 1 <;> (rw [decide_eq_decide]; omega)
theorem slotIn_gran (st : Int) (cls : List (Int × Int)) (addr : Int) (k : Nat) : slotIn st cls (addr - addr % 16) k = slotIn st cls addr k := by
  unfold slotIn
  rw [show inS st cls (addr - addr % 16) k = inS st cls addr k from funext fun s => inS_gran st cls addr k s]
theorem slotFrom_gran (st : Int) (cls : List (Int × Int)) (addr : Int) (f k : Nat) : slotFrom st cls (addr - addr % 16) f k = slotFrom st cls addr f k := by
  induction f generalizing k with
  | zero => rfl
  | succ f ih => simp only [slotFrom, slotIn_gran, ih]
theorem slot_gran (st : Int) (cls : List (Int × Int)) (addr : Int) : slot st cls (addr - addr % 16) = slot st cls addr := slotFrom_gran _ _ _ _ _
theorem tag_gran (st : Int) (cls : List (Int × Int)) (log : List Ref.Ev) (addr : Int) : tag st cls log (addr - addr % 16) = tag st cls log addr := by
  unfold tag
  rw [slot_gran]
  generalize (slot st cls addr).1 = k
  generalize (slot st cls addr).2 = s
  have e : (begin_ st cls k.toNat s + 16 * (log.getD (Ref.given log k s).toNat Ref.Ev.no).size ≤ addr - addr % 16) ↔ (begin_ st cls k.toNat s + 16 * (log.getD (Ref.given log k s).toNat Ref.Ev.no).size ≤ addr) := by
    unfold begin_
    generalize gran st cls k.toNat + s * gr cls k.toNat = b
    generalize (log.getD (Ref.given log k s).toNat Ref.Ev.no).size = z
    omega
  have e2 : (16 ≤ addr - addr % 16 ∧ addr - addr % 16 < 16 * (1 + st)) ↔ (16 ≤ addr ∧ addr < 16 * (1 + st)) := by omega
  simp only [e, e2]
end Cf

theorem RSt.tag_same (R : RSt) (a b : Int) (h : a / 16 = b / 16) : R.tag a = R.tag b := by
  unfold RSt.tag
  rw [← Cf.tag_gran R.st R.cls R.log a, ← Cf.tag_gran R.st R.cls R.log b, show a - a % 16 = b - b % 16 by omega]

def touchE (tg t : Int) : Int := if tg = -1 then 6 else if tg = 15 ∨ tg ≠ t then 7 else 0

namespace Ref
theorem accFrom_skip (tag : Int → Int) (t a : Int) (d f i : Nat) (hd : d ≤ f) (h : ∀ j : Nat, i ≤ j → j < i + d → touchE (tag (a + j)) t = 0) : accFrom tag t a f i = accFrom tag t a (f - d) (i + d) := by
  induction d generalizing f i with
  | zero => rfl
  | succ d ih =>
    obtain ⟨f', rfl⟩ : ∃ f', f = f' + 1 := ⟨f - 1, by omega⟩
    have h0 := h i (by omega) (by omega)
    have e : accFrom tag t a (f' + 1) i = accFrom tag t a f' (i + 1) := by
      unfold touchE at h0
      simp only [accFrom]
      by_cases h1 : tag (a + i) = -1
      · rw [if_pos h1] at h0; simp at h0
      · rw [if_neg h1] at h0 ⊢
        by_cases h2 : tag (a + i) = 15 ∨ tag (a + i) ≠ t
        · rw [if_pos h2] at h0; simp at h0
        · rw [if_neg h2]
    rw [e, ih f' (i + 1) (by omega) (fun j h1 h2 => h j (by omega) (by omega)), show f' + 1 - (d + 1) = f' - d by omega, show i + 1 + d = i + (d + 1) by omega]
theorem accFrom_stop (tag : Int → Int) (t a : Int) (f i : Nat) (hf : 0 < f) (h : touchE (tag (a + i)) t ≠ 0) : accFrom tag t a f i = (touchE (tag (a + i)) t, a + i) := by
  obtain ⟨f', rfl⟩ : ∃ f', f = f' + 1 := ⟨f - 1, by omega⟩
  simp only [accFrom]
  unfold touchE at h ⊢
  by_cases h1 : tag (a + i) = -1
  · rw [if_pos h1, if_pos h1]
  · rw [if_neg h1] at h ⊢
    by_cases h2 : tag (a + i) = 15 ∨ tag (a + i) ≠ t
    · rw [if_pos h2, if_neg h1, if_pos h2]
    · rw [if_neg h2] at h; exact absurd rfl h
end Ref

/-- where the next granule begins, counted from the first byte -/
def onward (a : Int) (i : Nat) : Nat := i + (16 - (a + (i : Int)) % 16).toNat

theorem onward_step (R : RSt) (t a n : Int) (i : Nat) (_a0 : 0 ≤ a) (hlt : (i : Int) < n) :
    (touchE (R.tag (a + i)) t ≠ 0 → Ref.accFrom R.tag t a (n.toNat - i) i = (touchE (R.tag (a + i)) t, a + i)) ∧
    (touchE (R.tag (a + i)) t = 0 → Ref.accFrom R.tag t a (n.toNat - i) i = Ref.accFrom R.tag t a (n.toNat - onward a i) (onward a i)) := by
  constructor
  · intro h
    exact Ref.accFrom_stop R.tag t a _ _ (by omega) h
  · intro h
    have same : ∀ j : Nat, i ≤ j → j < onward a i → R.tag (a + j) = R.tag (a + i) := fun j h1 h2 => by
      refine R.tag_same _ _ ?_
      unfold onward at h2
      omega
    have h01 : i < onward a i := by unfold onward; omega
    by_cases hle : onward a i ≤ n.toNat
    · have e := Ref.accFrom_skip R.tag t a (onward a i - i) (n.toNat - i) i (by omega) (fun j h1 h2 => by rw [same j h1 (by omega)]; exact h)
      rw [e]
      congr 1 <;> omega
    · have e := Ref.accFrom_skip R.tag t a (n.toNat - i) (n.toNat - i) i (by omega) (fun j h1 h2 => by rw [same j h1 (by omega)]; exact h)
      rw [e, show n.toNat - i - (n.toNat - i) = 0 by omega, show n.toNat - onward a i = 0 by omega]
      rfl

set_option maxRecDepth 100000 in
set_option maxHeartbeats 800000 in
theorem touch_any (p : Nat) (vc : Value) (bb : Nat) (G : GSt) (R : RSt) (addr t : Int) (w : World) (h : GRep w p vc bb G) (hs : Sim G R) (a0 : -9223372036854775808 ≤ addr) (a1 : addr ≤ 9223372036854775807) :
    Calls Try.prog 100 #[.pointer (some ⟨p, 0, none⟩), .int .i64 addr, .int .i64 t] w fun e w' => e = .returned (.int .i64 (touchE (R.tag addr) t)) ∧ Below w.heap.size w w' := by
  have HR := hide2 h
  have HS := hide2 hs
  have HTG : Hid (gtag G R.cls addr = R.tag addr) := hs.tag addr
  clear h hs
  have HF : Hid (touchE (R.tag addr) t = if R.tag addr = -1 then 6 else if R.tag addr = 15 ∨ R.tag addr ≠ t then 7 else 0) := rfl
  generalize touchE (R.tag addr) t = res at *
  generalize R.tag addr = tg at *
  by_cases h1 : tg = -1
  · have HF2 : Hid (res = 6) := HF.out.trans (if_pos h1)
    have hb1 : (tg == -1) = true := by simp [h1]
    clear HF h1
    go_enter Try.func100, Try.ntmps100
    go_wp2_with (go_at_call 103; refine (gtag_any p vc bb G R.rest R.cls addr w HR.out HS.out.ok HS.out.bd a0 a1).mono ?_; rw [HTG.out]; rintro e2 w2 ⟨rfl, hb2⟩)
    go_ret
    exact ⟨by rw [HF2.out]; rfl, hb2⟩
  · have hb1 : (tg == -1) = false := by rw [beq_eq_false_iff_ne]; exact h1
    by_cases h2 : tg = 15 ∨ tg ≠ t
    · have HF2 : Hid (res = 7) := HF.out.trans ((if_neg h1).trans (if_pos h2))
      clear HF h1
      by_cases h3 : tg = 15
      · have hb3 : (tg == 15) = true := by simp [h3]
        clear h2 h3
        go_enter Try.func100, Try.ntmps100
        go_wp2_with (go_at_call 103; refine (gtag_any p vc bb G R.rest R.cls addr w HR.out HS.out.ok HS.out.bd a0 a1).mono ?_; rw [HTG.out]; rintro e2 w2 ⟨rfl, hb2⟩)
        go_ret
        exact ⟨by rw [HF2.out]; rfl, hb2⟩
      · have hb3 : (tg == 15) = false := by rw [beq_eq_false_iff_ne]; exact h3
        have hb4 : (tg != t) = true := by simp; omega
        clear h2 h3
        go_enter Try.func100, Try.ntmps100
        go_wp2_with (go_at_call 103; refine (gtag_any p vc bb G R.rest R.cls addr w HR.out HS.out.ok HS.out.bd a0 a1).mono ?_; rw [HTG.out]; rintro e2 w2 ⟨rfl, hb2⟩)
        go_ret
        exact ⟨by rw [HF2.out]; rfl, hb2⟩
    · have HF2 : Hid (res = 0) := HF.out.trans ((if_neg h1).trans (if_neg h2))
      have hb3 : (tg == 15) = false := by rw [beq_eq_false_iff_ne]; omega
      have hb4 : (tg != t) = false := by simp; omega
      clear HF h1 h2
      go_enter Try.func100, Try.ntmps100
      go_wp2_with (go_at_call 103; refine (gtag_any p vc bb G R.rest R.cls addr w HR.out HS.out.ok HS.out.bd a0 a1).mono ?_; rw [HTG.out]; rintro e2 w2 ⟨rfl, hb2⟩)
      go_ret
      exact ⟨by rw [HF2.out]; rfl, hb2⟩

theorem within_len {n : Int} : withinB n 0 65536 = false ↔ (n < 0 ∨ 65536 < n) := by
  unfold withinB
  rw [Bool.and_eq_false_iff, decide_eq_false_iff_not, decide_eq_false_iff_not]; omega

theorem within_any' (n lo hi : Int) (w : World) : Calls Try.prog 42 #[.int .i64 n, .int .i64 lo, .int .i64 hi] w fun e w' => e = .returned (.bool (withinB n lo hi)) ∧ w = w' :=
  (within_any n lo hi w).mono (fun _ _ h => ⟨h.1, h.2.symm⟩)

set_option maxRecDepth 100000 in
theorem nextGranule_any (a : Int) (w : World) (a0 : 0 ≤ a) (a1 : a ≤ 1000000) :
    Calls Try.prog 101 #[.int .i64 a] w fun e w' => e = .returned (.int .i64 (a - a % 16 + 16)) ∧ w = w' := by
  go_enter Try.func101, Try.ntmps101
  go_wp2
  go_ret
  exact ⟨rfl, rfl⟩

set_option maxRecDepth 100000 in
set_option maxHeartbeats 1600000 in
theorem gdecide_any (p : Nat) (vc : Value) (bb : Nat) (G : GSt) (R : RSt) (q n : Int) (w : World) (h : GRep w p vc bb G) (hs : Sim G R) (q1 : q ≤ 9223372036854775807) :
    Calls Try.prog 93 #[.pointer (some ⟨p, 0, none⟩), .int .i64 q, .int .i64 n] w fun e w' => e = .returned (.tuple #[.int .i64 (R.access q n).2, .int .i64 (R.access q n).1]) ∧ Below w.heap.size w w' := by
  have HR := hide2 h
  have HS := hide2 hs
  clear h hs
  by_cases ha : n < 0 ∨ 65536 < n
  · have HA : Hid (R.access q n = (2, 0)) := by show _ = _; unfold RSt.access; rw [if_pos ha]
    have HW := hide2 (within_len.2 ha)
    clear ha
    go_enter Try.func93, Try.ntmps93
    go_wp2_with (go_at_call 42; refine (within_any' n 0 65536 w).mono ?_; rw [HW.out]; rintro e1 w1 ⟨rfl, rfl⟩)
    go_ret2
    exact ⟨by rw [HA.out]; rfl, Below.refl _ _⟩
  · have hn0 : 0 ≤ n := by omega
    have hn1 : n ≤ 65536 := by omega
    have HW : Hid (withinB n 0 65536 = true) := by
      show _ = _
      cases e : withinB n 0 65536
      · exact absurd (within_len.1 e) ha
      · rfl
    by_cases hz : n = 0
    · have HA : Hid (R.access q n = (0, 0)) := by show _ = _; unfold RSt.access; rw [if_neg ha, if_pos hz]
      clear ha
      subst hz
      go_enter Try.func93, Try.ntmps93
      go_wp2_with (go_at_call 42; refine (within_any' 0 0 65536 w).mono ?_; rw [HW.out]; rintro e1 w1 ⟨rfl, rfl⟩)
      go_ret2
      exact ⟨by rw [HA.out]; rfl, Below.refl _ _⟩
    · have hzb : (n == 0) = false := by rw [beq_eq_false_iff_ne]; exact hz
      have hnp : 0 < n := by omega
      cases ht : Ref.tameB q
      · have HA : Hid (R.access q n = (5, 0)) := by show _ = _; unfold RSt.access; rw [if_neg ha, if_neg hz, ht]; rfl
        have HT := hide2 ht
        clear ha hz ht
        go_enter Try.func93, Try.ntmps93
        go_wp2_with fail
        refine (within_any' n 0 65536 w).mono ?_
        rw [HW.out]
        rintro e1 w1 ⟨rfl, rfl⟩
        go_wp2_with (go_at_call 96; refine (isTame_any q _ q1).mono ?_; rw [HT.out]; rintro e1 w1 ⟨rfl, rfl⟩)
        go_ret2
        exact ⟨by rw [HA.out]; rfl, Below.refl _ _⟩
      · have HA : Hid (R.access q n = Ref.accFrom R.tag (q / 72057594037927936) (q % 72057594037927936) (n.toNat - 0) 0) := by show _ = _; unfold RSt.access; rw [if_neg ha, if_neg hz, ht]; rfl
        have htm := (tame_iff q).1 ht
        have HT := hide2 ht
        have q0 : 0 ≤ q := htm.1
        have a0 : 0 ≤ q % 72057594037927936 := by omega
        have a1 : q % 72057594037927936 ≤ 65535 := htm.2.2
        clear ha hz ht htm
        go_enter Try.func93, Try.ntmps93
        go_wp2_with fail
        refine (within_any' n 0 65536 w).mono ?_
        rw [HW.out]
        rintro e1 w1 ⟨rfl, rfl⟩
        go_wp2_with fail
        refine (isTame_any q _ q1).mono ?_
        rw [HT.out]
        rintro e1 w1 ⟨rfl, rfl⟩
        go_wp2
        go_loopw [8] (fun i wr => ∃ m : Nat, (m : Int) ≤ n + 16 ∧ i = .int .i64 (q % 72057594037927936 + (m : Int)) ∧ Hid (R.access q n = Ref.accFrom R.tag (q / 72057594037927936) (q % 72057594037927936) (n.toNat - m) m) ∧ Below w.heap.size w wr) (fun i _ => (q % 72057594037927936 + n - intOf i).toNat)
        case atStart => exact ⟨0, by omega, by simp, HA.out, Below.refl _ _⟩
        case round =>
          obtain ⟨m, hm, rfl, hA, hb⟩ := hrel
          have HRr := hide2 (HR.out.below hb)
          by_cases hlt : (m : Int) < n
          · have hst := onward_step R (q / 72057594037927936) (q % 72057594037927936) n m a0 hlt
            have HS1 := hide2 hst.1
            have HS2 := hide2 hst.2
            have at0 : 0 ≤ q % 72057594037927936 + (m : Int) := by omega
            have at1 : q % 72057594037927936 + (m : Int) ≤ 1000000 := by omega
            have hlt2 : q % 72057594037927936 + (m : Int) < q % 72057594037927936 + n := by omega
            obtain ⟨at_, hat⟩ : ∃ at_, at_ = q % 72057594037927936 + (m : Int) := ⟨_, rfl⟩
            have HATD := hide2 hat
            rw [← hat] at hlt2 at0 at1 HS1 HS2 ⊢
            clear hst hat hm
            have ON : Hid (onward (q % 72057594037927936) m = m + (16 - (q % 72057594037927936 + (m : Int)) % 16).toNat) := rfl
            by_cases hz : touchE (R.tag at_) (q / 72057594037927936) = 0
            · have HZ := hide2 hz
              clear hz
              go_wp2_with (first
                | (go_at_call 100; refine (touch_any p vc bb G R at_ (q / 72057594037927936) wr HRr.out HS.out (by omega) (by omega)).mono ?_; rw [HZ.out]; rintro e2 w2 ⟨rfl, hb2⟩)
                | (go_at_call 101; refine (nextGranule_any at_ _ at0 at1).mono ?_; rintro e3 w3 ⟨rfl, rfl⟩))
              go_roundw
              case rel => exact ⟨onward (q % 72057594037927936) m, by rw [ON.out]; omega, by rw [ON.out, HATD.out]; congr 1; omega, by show _ = _; rw [hA.out, HS2.out HZ.out], hb.trans (hb2.mono hb.size)⟩
              case measure => simp [intOf]; omega
            · have HZ := hide2 hz
              have hzb2 : (touchE (R.tag at_) (q / 72057594037927936) != 0) = true := by simp [hz]
              clear hz
              go_wp2_with (go_at_call 100; refine (touch_any p vc bb G R at_ (q / 72057594037927936) wr HRr.out HS.out (by omega) (by omega)).mono ?_; rintro e2 w2 ⟨rfl, hb2⟩)
              go_ret2
              exact ⟨by rw [hA.out, HS1.out HZ.out]; first | rfl | (rw [HATD.out]; rfl), hb.trans (hb2.mono hb.size)⟩
          · have HF : Hid (R.access q n = (0, 0)) := by
              show _ = _
              rw [hA.out, show n.toNat - m = 0 by omega]
              rfl
            have at0 : 0 ≤ q % 72057594037927936 + (m : Int) := by omega
            have at1 : q % 72057594037927936 + (m : Int) ≤ 1000000 := by omega
            have hge : q % 72057594037927936 + n ≤ q % 72057594037927936 + (m : Int) := by omega
            clear hA HA
            generalize q % 72057594037927936 + (m : Int) = at_ at *
            go_wp2
            go_ret2
            exact ⟨by rw [HF.out]; rfl, hb⟩

set_option maxRecDepth 100000 in
theorem gaccess_any (p : Nat) (vc : Value) (bb : Nat) (G : GSt) (R : RSt) (q n : Int) (w : World) (h : GRep w p vc bb G) (hs : Sim G R) (q1 : q ≤ 9223372036854775807) :
    Calls Try.prog 78 #[.pointer (some ⟨p, 0, none⟩), .int .i64 q, .int .i64 n] w fun e w' => e = .returned (.int .i64 (R.access q n).1) ∧ Below w.heap.size w w' := by
  have HR := hide2 h
  have HS := hide2 hs
  clear h hs
  go_enter Try.func78, Try.ntmps78
  go_wp2_with (go_at_call 93; refine (gdecide_any p vc bb G R q n w HR.out HS.out q1).mono ?_; rintro e2 w2 ⟨rfl, hb2⟩)
  go_ret
  exact ⟨rfl, hb2⟩
end Go.Proofs.Ytjikemhmnkckcab
/- The document's Usable and Load. -/
namespace Go.Proofs.Ytjikemhmnkckcab
open Go.RowKit

def RSt.usable (R : RSt) (q : Int) : Int × Int :=
  if (Ref.block R.st R.cls R.log q).2.2 ≠ 0 then (0, (Ref.block R.st R.cls R.log q).2.2)
  else (16 * (R.log.getD (Ref.given R.log (Ref.block R.st R.cls R.log q).1 (Ref.block R.st R.cls R.log q).2.1).toNat Ref.Ev.no).size, 0)
namespace Ref
/-- the unit, the number that were read after i bytes -/
def ldU : Nat → Int
  | 0 => 1
  | i + 1 => wrap64 (ldU i * 256)
def ldV (byte : Int → Int) (a : Int) : Nat → Int
  | 0 => 0
  | i + 1 => wrap64 (ldV byte a i + wrap64 (byte (a + i) * ldU i))
end Ref
def RSt.load (R : RSt) (q n : Int) : Int × Int :=
  if Ref.shapeB n = false then (0, 2) else if (R.access q n).1 ≠ 0 then (0, (R.access q n).1) else (Ref.ldV R.byte (q % 72057594037927936) n.toNat, 0)

theorem access_ok {R : RSt} {q n : Int} (h : (R.access q n).1 = 0) (hn : 0 < n) : Ref.tameB q = true ∧ n ≤ 65536 := by
  unfold RSt.access at h
  by_cases ha : n < 0 ∨ 65536 < n
  · rw [if_pos ha] at h; simp at h
  · rw [if_neg ha, if_neg (by omega)] at h
    cases ht : Ref.tameB q
    · rw [ht] at h; simp at h
    · exact ⟨rfl, by omega⟩

end Go.Proofs.Ytjikemhmnkckcab
/- The document's Store. -/
namespace Go.Proofs.Ytjikemhmnkckcab
open Go.RowKit

namespace Ref
/-- what is left of the value after i bytes -/
def stV (value : Int) : Nat → Int
  | 0 => value % 18446744073709551616
  | i + 1 => stV value i / 256
theorem stV_bd (value : Int) (i : Nat) : 0 ≤ stV value i ∧ stV value i ≤ 18446744073709551615 := by
  induction i with
  | zero => simp only [stV]; omega
  | succ i ih => simp only [stV]; omega
end Ref
def RSt.stores (R : RSt) (a value : Int) : Nat → RSt
  | 0 => R
  | i + 1 => (R.stores a value i).mark (a + i) (Ref.stV value i % 256)
theorem RSt.stores_same (R : RSt) (a value : Int) (i : Nat) : (R.stores a value i).st = R.st ∧ (R.stores a value i).rest = R.rest ∧ (R.stores a value i).cls = R.cls ∧ (R.stores a value i).log = R.log ∧ (R.stores a value i).marks.length = R.marks.length + i := by
  induction i with
  | zero => exact ⟨rfl, rfl, rfl, rfl, rfl⟩
  | succ i ih => exact ⟨ih.1, ih.2.1, ih.2.2.1, ih.2.2.2.1, by show ((R.stores a value i).marks ++ [(a + i, Ref.stV value i % 256, ((R.stores a value i).log.length : Int))]).length = _; rw [List.length_append, ih.2.2.2.2]; rfl⟩
def RSt.storeErr (R : RSt) (q n : Int) : Int := if Ref.shapeB n = false then 2 else (R.access q n).1
def RSt.store (R : RSt) (q n value : Int) : RSt := if R.storeErr q n = 0 then R.stores (q % 72057594037927936) value n.toNat else R

end Go.Proofs.Ytjikemhmnkckcab
namespace Go.Proofs.Ytjikemhmnkckcab
open Go.RowKit
attribute [local go_sem ↓] Go.wp_at_zero Go.wp_at_succ

set_option maxRecDepth 100000 in
set_option maxHeartbeats 1600000 in
theorem same_any (st rest : Int) (a b : Option Addr) (cap capb : Nat) (cls : List (Int × Int)) (w : World) (ha : CRow w a cap cls) (hb : CRow w b capb cls) :
    Calls Try.prog 27 #[.agg #[.int .i64 st, .int .i64 rest, .slice a cls.length cap], .agg #[.int .i64 st, .int .i64 rest, .slice b cls.length capb]] w fun e w' => e = .returned (.bool true) ∧ Below w.heap.size w w' := by
  have l1 := ha.len
  have l2 := ha.cap
  unfold maxLen at l2
  have l3 := hb.len
  have l4 := hb.cap
  unfold maxLen at l4
  have HA : Hid (CCells w a cls) := ha.cells
  have HB : Hid (CCells w b cls) := hb.cells
  have e1 : (st != st) = false := by simp
  have e2 : (rest != rest) = false := by simp
  have e3 : (((cls.length : Nat) : Int) != ((cls.length : Nat) : Int)) = false := by simp
  clear ha hb
  go_enter Try.func27, Try.ntmps27
  go_wp2
  go_loopw [5] (fun i wr => ∃ m : Nat, m ≤ cls.length ∧ i = .int .i64 (m : Int) ∧ Below w.heap.size w wr ∧ CBox wr w.heap.size st rest a cls.length cap ∧ CBox wr (w.heap.size + 1) st rest b cls.length capb) (fun i _ => cls.length - (intOf i).toNat)
  case atStart =>
    refine ⟨0, by omega, rfl, ((Below.refl _ _).alloc (Nat.le_refl _) _).alloc (by simp) _, (CBox.alloc _ _ _ _ _ _ _).below ((Below.refl _ _).alloc (Nat.le_refl _) _) (by simp), ?_⟩
    have := CBox.alloc (w.alloc (.cells #[.int .i64 st, .int .i64 rest, .slice a cls.length cap] 24)) st rest b cls.length capb 24
    simpa using this
  case round =>
    obtain ⟨m, hm, rfl, hb, ca, cb⟩ := hrel
    have c2 := ca.c2
    have d2 := cb.c2
    by_cases hlt : m < cls.length
    · obtain ⟨g, off, rfl, hgl, hcell⟩ := HA.out (by omega)
      obtain ⟨g', off', rfl, hgl', hcell'⟩ := HB.out (by omega)
      have x0 := (hb.cell (p := ⟨g, off + m * 2, none⟩) hgl).trans (hcell m hlt).1
      have x1 := (hb.cell (p := ⟨g, off + m * 2 + 1, none⟩) hgl).trans (hcell m hlt).2
      have y0 := (hb.cell (p := ⟨g', off' + m * 2, none⟩) hgl').trans (hcell' m hlt).1
      have y1 := (hb.cell (p := ⟨g', off' + m * 2 + 1, none⟩) hgl').trans (hcell' m hlt).2
      have i0 : (0 : Int) ≤ (m : Int) := by omega
      have i1 : (m : Int) < (cls.length : Int) := by omega
      generalize Cf.gr cls m = x at *
      generalize Cf.sl cls m = y at *
      clear hcell hcell' HA HB
      go_wp2
      go_quiet (fail)
      go_wp2
      go_roundw
      case rel => exact ⟨m + 1, by omega, by go_num, below_drewN hb _, ca.below (below_drewN (Below.refl wr.heap.size _) _) ca.lt, cb.below (below_drewN (Below.refl wr.heap.size _) _) cb.lt⟩
      case measure => simp [intOf]; omega
    · go_wp2
      go_ret
      exact ⟨rfl, hb⟩

/-- the owner's list, as far as it can be written -/
structure Own (w : World) (L n : Nat) (wr : World) : Prop where
  kept : Kept w wr (· = L)
  blk : ∃ xs, Blk wr L 37 xs ∧ xs.length = n

theorem Kept.refl (w : World) (S : Nat → Prop) : Kept w w S := ⟨rfl, rfl, rfl, Nat.le_refl _, fun _ _ _ => rfl⟩
theorem Kept.setCell {w wr : World} {S : Nat → Prop} (h : Kept w wr S) (a : Addr) (v : Value) (ha : S a.block) : Kept w (wr.setCell a v) S :=
  ⟨h.os, h.tape, h.output, by rw [World.size_setCell]; exact h.size, fun k hk hs => (Below.heap_setCell wr a v k (fun e => hs (e ▸ ha))).trans (h.block k hk hs)⟩
theorem Own.setCell {w wr : World} {L n : Nat} (h : Own w L n wr) (j : Nat) (v : Value) : Own w L n (wr.setCell ⟨L, j, none⟩ v) := by
  obtain ⟨xs, hx, hn⟩ := h.blk
  exact ⟨h.kept.setCell _ _ rfl, _, hx.setCell j v, by rw [List.length_set]; exact hn⟩
theorem Own.cell {w wr : World} {L n : Nat} (h : Own w L n wr) (j : Nat) (hj : j < n) : ∃ v, wr.cell? ⟨L, j, none⟩ = some v := by
  obtain ⟨xs, hx, hn⟩ := h.blk
  exact ⟨xs[j], hx.cell (List.getElem?_eq_getElem (by omega))⟩
theorem Own.frozen {w wr : World} {L n : Nat} (h : Own w L n wr) (j : Nat) : wr.frozen? ⟨L, j, none⟩ = false := by
  obtain ⟨xs, hx, hn⟩ := h.blk
  exact hx.frozen j

theorem crow_own {w : World} {L : Nat} {cls : List (Int × Int)} {tl : List Value} (h : Blk w L 37 (cls.flatMap clsCells ++ tl)) (hcap : cls.length + 2 ≤ maxLen) : CRow w (some ⟨L, 0, none⟩) (cls.length + 2) cls := by
  refine ⟨by omega, hcap, fun _ => ⟨L, 0, rfl, h.lt, fun i hi => ?_⟩⟩
  have hfl := flat_len clsCells 2 (fun _ => rfl) cls
  have hc : ∀ j u, (cls.flatMap clsCells)[j]? = some u → w.cell? ⟨L, j, none⟩ = some u := fun j u hu => h.cell (by
    rw [List.getElem?_append_left]
    · exact hu
    · rcases Nat.lt_or_ge j (cls.flatMap clsCells).length with h | h
      · exact h
      · rw [List.getElem?_eq_none h] at hu; cases hu)
  have := cls_cells hc i hi
  simp only [Nat.zero_add]
  exact this

set_option maxRecDepth 100000 in
set_option maxHeartbeats 1600000 in
theorem still_any (st rest : Int) (b : Option Addr) (capb L : Nat) (cls : List (Int × Int)) (w : World) (hL : Blk w L 37 (cls.flatMap clsCells ++ room4)) (hb : CRow w b capb cls) (hreach : cls.length * 16 ≤ 140737488351232) :
    Calls Try.prog 15 #[.agg #[.int .i64 st, .int .i64 rest, .slice (some ⟨L, 0, none⟩) cls.length (cls.length + 2)], .agg #[.int .i64 st, .int .i64 rest, .slice b cls.length capb]] w fun e w' => e = .returned (.bool true) ∧ Kept w w' (· = L) := by
  have hfl := flat_len clsCells 2 (fun _ => rfl) cls
  have hLl := hL.lt
  have hca : CRow w (some ⟨L, 0, none⟩) (cls.length + 2) cls := crow_own hL (by simp [maxLen]; omega)
  have HA : Hid (CRow w (some ⟨L, 0, none⟩) (cls.length + 2) cls) := hca
  have HB : Hid (CRow w b capb cls) := hb
  have HL : Hid (Blk w L 37 (cls.flatMap clsCells ++ room4)) := hL
  have n0 := hL.cell (j := cls.length * 2) (v := .int .i64 77) (by rw [List.getElem?_append_right (by omega)]; simp [hfl, room4])
  have n1 := hL.cell (j := cls.length * 2 + 1) (v := .int .i64 77) (by rw [List.getElem?_append_right (by omega)]; simp [hfl, room4])
  have n2 := hL.cell (j := (cls.length + 1) * 2) (v := .int .i64 77) (by rw [List.getElem?_append_right (by omega), hfl, show (cls.length + 1) * 2 - cls.length * 2 = 2 by omega]; rfl)
  have n3 := hL.cell (j := (cls.length + 1) * 2 + 1) (v := .int .i64 77) (by rw [List.getElem?_append_right (by omega), hfl, show (cls.length + 1) * 2 + 1 - cls.length * 2 = 3 by omega]; rfl)
  have a1 : ((cls.length : Int) + 1).toNat = cls.length + 1 := by omega
  have a2 : ((cls.length : Int) + 2).toNat = cls.length + 2 := by omega
  have e77 : ((77 : Int) == 77) = true := by decide
  clear hL hca hb hfl
  go_enter Try.func15, Try.ntmps15
  go_wp2_with (go_at_call 27; refine (same_any st rest _ _ _ _ cls _ (HA.out.below (((Below.refl _ _).alloc (Nat.le_refl _) _).alloc (by simp) _)) (HB.out.below (((Below.refl _ _).alloc (Nat.le_refl _) _).alloc (by simp) _))).mono ?_; rintro e1 w1 ⟨rfl, hb1⟩; have hw1 : Below w.heap.size w w1 := (((Below.refl _ _).alloc (Nat.le_refl _) _).alloc (by simp) _).trans (hb1.mono (by simp; omega)); have q2 := (hb1.cell (p := ⟨w.heap.size, 2, none⟩) (by simp; omega)).trans ((World.cell?_alloc_lt _ _ _ (by simp)).trans (World.cell?_alloc_new _ _ _ _)); have m0 := (hw1.cell (p := ⟨L, cls.length * 2, none⟩) hLl).trans n0; have m1 := (hw1.cell (p := ⟨L, cls.length * 2 + 1, none⟩) hLl).trans n1; have m2 := (hw1.cell (p := ⟨L, (cls.length + 1) * 2, none⟩) hLl).trans n2; have m3 := (hw1.cell (p := ⟨L, (cls.length + 1) * 2 + 1, none⟩) hLl).trans n3)
  have hown : Own w L (cls.length * 2 + 4) w1 := ⟨Kept.of_below hw1 _, _, HL.out.below hw1 hLl, by rw [List.length_append, flat_len clsCells 2 (fun _ => rfl)]; rfl⟩
  go_loopw [9] (fun i wr => ∃ m : Nat, m ≤ cls.length + 2 ∧ i = .int .i64 (m : Int) ∧ Own w L (cls.length * 2 + 4) wr) (fun i _ => cls.length + 2 - (intOf i).toNat)
  case atStart => exact ⟨0, by omega, rfl, hown⟩
  case round =>
    obtain ⟨m, hm, rfl, ho⟩ := hrel
    clear hown m0 m1 m2 m3 n0 n1 n2 n3 q2
    by_cases hlt : m < cls.length + 2
    · obtain ⟨v0, c0⟩ := ho.cell (m * 2) (by omega)
      obtain ⟨v1, c1⟩ := ho.cell (m * 2 + 1) (by omega)
      have f0 := ho.frozen (m * 2)
      have f1 := ho.frozen (m * 2 + 1)
      have hs := (ho.setCell (m * 2) (.int .i64 3)).setCell (m * 2 + 1) (.int .i64 2)
      go_wp2
      go_roundw
      case rel => exact ⟨m + 1, by omega, by go_num, hs⟩
      case measure => simp [intOf]; omega
    · go_wp2
      go_ret
      exact ⟨rfl, ho.kept⟩
end Go.Proofs.Ytjikemhmnkckcab
