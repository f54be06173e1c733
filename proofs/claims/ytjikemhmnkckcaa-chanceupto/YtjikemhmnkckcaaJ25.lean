import Derived.Test.YtjikemhmnkckcaaJ19
import Derived.Test.YtjikemhmnkckcaaJ24
/- The program's access: a granule at a time. -/
namespace Go.Proofs.Ytjikemhmnkckcaa
open Go.RowKit

namespace Cf
theorem inS_gran (st : Int) (cls : List (Int × Int)) (addr : Int) (k s : Nat) : inS st cls (addr - addr % 16) k s = inS st cls addr k s := by
  unfold inS begin_
  generalize gran st cls k + (s : Int) * gr cls k = b
  generalize gr cls k = g
  congr 1 <;> (rw [decide_eq_decide]; omega)
theorem slotIn_gran (st : Int) (cls : List (Int × Int)) (addr : Int) (k : Nat) : slotIn st cls (addr - addr % 16) k = slotIn st cls addr k := by
  unfold slotIn
  rw [show inS st cls (addr - addr % 16) k = inS st cls addr k from funext fun s => inS_gran st cls addr k s]
theorem slotFrom_gran (st : Int) (cls : List (Int × Int)) (addr : Int) (f k : Nat) : slotFrom st cls (addr - addr % 16) f k = slotFrom st cls addr f k := by
  induction f generalizing k with
  | zero => rfl
  | succ f ih => simp only [slotFrom, slotIn_gran, ih]
theorem slot_gran (st : Int) (cls : List (Int × Int)) (addr : Int) : slot st cls (addr - addr % 16) = slot st cls addr := slotFrom_gran _ _ _ _ _
theorem tag_gran (st : Int) (cls : List (Int × Int)) (log : List Ref.Ev) (addr : Int) : tag st cls log (addr - addr % 16) = tag st cls log addr := by
  unfold tag
  rw [slot_gran]
  generalize (slot st cls addr).1 = k
  generalize (slot st cls addr).2 = s
  have e : (begin_ st cls k.toNat s + 16 * (log.getD (Ref.given log k s).toNat Ref.Ev.no).size ≤ addr - addr % 16) ↔ (begin_ st cls k.toNat s + 16 * (log.getD (Ref.given log k s).toNat Ref.Ev.no).size ≤ addr) := by
    unfold begin_
    generalize gran st cls k.toNat + s * gr cls k.toNat = b
    generalize (log.getD (Ref.given log k s).toNat Ref.Ev.no).size = z
    omega
  have e2 : (16 ≤ addr - addr % 16 ∧ addr - addr % 16 < 16 * (1 + st)) ↔ (16 ≤ addr ∧ addr < 16 * (1 + st)) := by omega
  simp only [e, e2]
end Cf

theorem RSt.tag_same (R : RSt) (a b : Int) (h : a / 16 = b / 16) : R.tag a = R.tag b := by
  unfold RSt.tag
  rw [← Cf.tag_gran R.st R.cls R.log a, ← Cf.tag_gran R.st R.cls R.log b, show a - a % 16 = b - b % 16 by omega]

def touchE (tg t : Int) : Int := if tg = -1 then 6 else if tg = 15 ∨ tg ≠ t then 7 else 0

namespace Ref
theorem accFrom_skip (tag : Int → Int) (t a : Int) (d f i : Nat) (hd : d ≤ f) (h : ∀ j : Nat, i ≤ j → j < i + d → touchE (tag (a + j)) t = 0) : accFrom tag t a f i = accFrom tag t a (f - d) (i + d) := by
  induction d generalizing f i with
  | zero => rfl
  | succ d ih =>
    obtain ⟨f', rfl⟩ : ∃ f', f = f' + 1 := ⟨f - 1, by omega⟩
    have h0 := h i (by omega) (by omega)
    have e : accFrom tag t a (f' + 1) i = accFrom tag t a f' (i + 1) := by
      unfold touchE at h0
      simp only [accFrom]
      by_cases h1 : tag (a + i) = -1
      · rw [if_pos h1] at h0; simp at h0
      · rw [if_neg h1] at h0 ⊢
        by_cases h2 : tag (a + i) = 15 ∨ tag (a + i) ≠ t
        · rw [if_pos h2] at h0; simp at h0
        · rw [if_neg h2]
    rw [e, ih f' (i + 1) (by omega) (fun j h1 h2 => h j (by omega) (by omega)), show f' + 1 - (d + 1) = f' - d by omega, show i + 1 + d = i + (d + 1) by omega]
theorem accFrom_stop (tag : Int → Int) (t a : Int) (f i : Nat) (hf : 0 < f) (h : touchE (tag (a + i)) t ≠ 0) : accFrom tag t a f i = (touchE (tag (a + i)) t, a + i) := by
  obtain ⟨f', rfl⟩ : ∃ f', f = f' + 1 := ⟨f - 1, by omega⟩
  simp only [accFrom]
  unfold touchE at h ⊢
  by_cases h1 : tag (a + i) = -1
  · rw [if_pos h1, if_pos h1]
  · rw [if_neg h1] at h ⊢
    by_cases h2 : tag (a + i) = 15 ∨ tag (a + i) ≠ t
    · rw [if_pos h2, if_neg h1, if_pos h2]
    · rw [if_neg h2] at h; exact absurd rfl h
end Ref

/-- where the next granule begins, counted from the first byte -/
def onward (a : Int) (i : Nat) : Nat := i + (16 - (a + (i : Int)) % 16).toNat

theorem onward_step (R : RSt) (t a n : Int) (i : Nat) (_a0 : 0 ≤ a) (hlt : (i : Int) < n) :
    (touchE (R.tag (a + i)) t ≠ 0 → Ref.accFrom R.tag t a (n.toNat - i) i = (touchE (R.tag (a + i)) t, a + i)) ∧
    (touchE (R.tag (a + i)) t = 0 → Ref.accFrom R.tag t a (n.toNat - i) i = Ref.accFrom R.tag t a (n.toNat - onward a i) (onward a i)) := by
  constructor
  · intro h
    exact Ref.accFrom_stop R.tag t a _ _ (by omega) h
  · intro h
    have same : ∀ j : Nat, i ≤ j → j < onward a i → R.tag (a + j) = R.tag (a + i) := fun j h1 h2 => by
      refine R.tag_same _ _ ?_
      unfold onward at h2
      omega
    have h01 : i < onward a i := by unfold onward; omega
    by_cases hle : onward a i ≤ n.toNat
    · have e := Ref.accFrom_skip R.tag t a (onward a i - i) (n.toNat - i) i (by omega) (fun j h1 h2 => by rw [same j h1 (by omega)]; exact h)
      rw [e]
      congr 1 <;> omega
    · have e := Ref.accFrom_skip R.tag t a (n.toNat - i) (n.toNat - i) i (by omega) (fun j h1 h2 => by rw [same j h1 (by omega)]; exact h)
      rw [e, show n.toNat - i - (n.toNat - i) = 0 by omega, show n.toNat - onward a i = 0 by omega]
      rfl

set_option maxRecDepth 100000 in
set_option maxHeartbeats 800000 in
theorem touch_any (p : Nat) (vc : Value) (bb : Nat) (G : GSt) (R : RSt) (addr t : Int) (w : World) (h : GRep w p vc bb G) (hs : Sim G R) (a0 : -9223372036854775808 ≤ addr) (a1 : addr ≤ 9223372036854775807) :
    Calls Try.prog 123 #[.pointer (some ⟨p, 0, none⟩), .int .i64 addr, .int .i64 t] w fun e w' => e = .returned (.int .i64 (touchE (R.tag addr) t)) ∧ Below w.heap.size w w' := by
  have HR := hide2 h
  have HS := hide2 hs
  have HTG : Hid (gtag G R.cls addr = R.tag addr) := hs.tag addr
  clear h hs
  have HF : Hid (touchE (R.tag addr) t = if R.tag addr = -1 then 6 else if R.tag addr = 15 ∨ R.tag addr ≠ t then 7 else 0) := rfl
  generalize touchE (R.tag addr) t = res at *
  generalize R.tag addr = tg at *
  by_cases h1 : tg = -1
  · have HF2 : Hid (res = 6) := HF.out.trans (if_pos h1)
    have hb1 : (tg == -1) = true := by simp [h1]
    clear HF h1
    go_enter Try.func123, Try.ntmps123
    go_wp2_with (go_at_call 16; refine (gtag_any p vc bb G R.rest R.cls addr w HR.out HS.out.ok HS.out.bd a0 a1).mono ?_; rw [HTG.out]; rintro e2 w2 ⟨rfl, hb2⟩)
    go_ret
    exact ⟨by rw [HF2.out]; rfl, hb2⟩
  · have hb1 : (tg == -1) = false := by rw [beq_eq_false_iff_ne]; exact h1
    by_cases h2 : tg = 15 ∨ tg ≠ t
    · have HF2 : Hid (res = 7) := HF.out.trans ((if_neg h1).trans (if_pos h2))
      clear HF h1
      by_cases h3 : tg = 15
      · have hb3 : (tg == 15) = true := by simp [h3]
        clear h2 h3
        go_enter Try.func123, Try.ntmps123
        go_wp2_with (go_at_call 16; refine (gtag_any p vc bb G R.rest R.cls addr w HR.out HS.out.ok HS.out.bd a0 a1).mono ?_; rw [HTG.out]; rintro e2 w2 ⟨rfl, hb2⟩)
        go_ret
        exact ⟨by rw [HF2.out]; rfl, hb2⟩
      · have hb3 : (tg == 15) = false := by rw [beq_eq_false_iff_ne]; exact h3
        have hb4 : (tg != t) = true := by simp; omega
        clear h2 h3
        go_enter Try.func123, Try.ntmps123
        go_wp2_with (go_at_call 16; refine (gtag_any p vc bb G R.rest R.cls addr w HR.out HS.out.ok HS.out.bd a0 a1).mono ?_; rw [HTG.out]; rintro e2 w2 ⟨rfl, hb2⟩)
        go_ret
        exact ⟨by rw [HF2.out]; rfl, hb2⟩
    · have HF2 : Hid (res = 0) := HF.out.trans ((if_neg h1).trans (if_neg h2))
      have hb3 : (tg == 15) = false := by rw [beq_eq_false_iff_ne]; omega
      have hb4 : (tg != t) = false := by simp; omega
      clear HF h1 h2
      go_enter Try.func123, Try.ntmps123
      go_wp2_with (go_at_call 16; refine (gtag_any p vc bb G R.rest R.cls addr w HR.out HS.out.ok HS.out.bd a0 a1).mono ?_; rw [HTG.out]; rintro e2 w2 ⟨rfl, hb2⟩)
      go_ret
      exact ⟨by rw [HF2.out]; rfl, hb2⟩

theorem within_len {n : Int} : withinB n 0 65536 = false ↔ (n < 0 ∨ 65536 < n) := by
  unfold withinB
  rw [Bool.and_eq_false_iff, decide_eq_false_iff_not, decide_eq_false_iff_not]; omega

theorem within_any' (n lo hi : Int) (w : World) : Calls Try.prog 103 #[.int .i64 n, .int .i64 lo, .int .i64 hi] w fun e w' => e = .returned (.bool (withinB n lo hi)) ∧ w = w' :=
  (within_any n lo hi w).mono (fun _ _ h => ⟨h.1, h.2.symm⟩)

set_option maxRecDepth 100000 in
theorem nextGranule_any (a : Int) (w : World) (a0 : 0 ≤ a) (a1 : a ≤ 1000000) :
    Calls Try.prog 124 #[.int .i64 a] w fun e w' => e = .returned (.int .i64 (a - a % 16 + 16)) ∧ w = w' := by
  go_enter Try.func124, Try.ntmps124
  go_wp2
  go_ret
  exact ⟨rfl, rfl⟩

set_option maxRecDepth 100000 in
set_option maxHeartbeats 1600000 in
theorem gdecide_any (p : Nat) (vc : Value) (bb : Nat) (G : GSt) (R : RSt) (q n : Int) (w : World) (h : GRep w p vc bb G) (hs : Sim G R) (q1 : q ≤ 9223372036854775807) :
    Calls Try.prog 102 #[.pointer (some ⟨p, 0, none⟩), .int .i64 q, .int .i64 n] w fun e w' => e = .returned (.tuple #[.int .i64 (R.access q n).2, .int .i64 (R.access q n).1]) ∧ Below w.heap.size w w' := by
  have HR := hide2 h
  have HS := hide2 hs
  clear h hs
  by_cases ha : n < 0 ∨ 65536 < n
  · have HA : Hid (R.access q n = (2, 0)) := by show _ = _; unfold RSt.access; rw [if_pos ha]
    have HW := hide2 (within_len.2 ha)
    clear ha
    go_enter Try.func102, Try.ntmps102
    go_wp2_with (go_at_call 103; refine (within_any' n 0 65536 w).mono ?_; rw [HW.out]; rintro e1 w1 ⟨rfl, rfl⟩)
    go_ret2
    exact ⟨by rw [HA.out]; rfl, Below.refl _ _⟩
  · have hn0 : 0 ≤ n := by omega
    have hn1 : n ≤ 65536 := by omega
    have HW : Hid (withinB n 0 65536 = true) := by
      show _ = _
      cases e : withinB n 0 65536
      · exact absurd (within_len.1 e) ha
      · rfl
    by_cases hz : n = 0
    · have HA : Hid (R.access q n = (0, 0)) := by show _ = _; unfold RSt.access; rw [if_neg ha, if_pos hz]
      clear ha
      subst hz
      go_enter Try.func102, Try.ntmps102
      go_wp2_with (go_at_call 103; refine (within_any' 0 0 65536 w).mono ?_; rw [HW.out]; rintro e1 w1 ⟨rfl, rfl⟩)
      go_ret2
      exact ⟨by rw [HA.out]; rfl, Below.refl _ _⟩
    · have hzb : (n == 0) = false := by rw [beq_eq_false_iff_ne]; exact hz
      have hnp : 0 < n := by omega
      cases ht : Ref.tameB q
      · have HA : Hid (R.access q n = (5, 0)) := by show _ = _; unfold RSt.access; rw [if_neg ha, if_neg hz, ht]; rfl
        have HT := hide2 ht
        clear ha hz ht
        go_enter Try.func102, Try.ntmps102
        go_wp2_with fail
        refine (within_any' n 0 65536 w).mono ?_
        rw [HW.out]
        rintro e1 w1 ⟨rfl, rfl⟩
        go_wp2_with (go_at_call 99; refine (isTame_any q _ q1).mono ?_; rw [HT.out]; rintro e1 w1 ⟨rfl, rfl⟩)
        go_ret2
        exact ⟨by rw [HA.out]; rfl, Below.refl _ _⟩
      · have HA : Hid (R.access q n = Ref.accFrom R.tag (q / 72057594037927936) (q % 72057594037927936) (n.toNat - 0) 0) := by show _ = _; unfold RSt.access; rw [if_neg ha, if_neg hz, ht]; rfl
        have htm := (tame_iff q).1 ht
        have HT := hide2 ht
        have q0 : 0 ≤ q := htm.1
        have a0 : 0 ≤ q % 72057594037927936 := by omega
        have a1 : q % 72057594037927936 ≤ 65535 := htm.2.2
        clear ha hz ht htm
        go_enter Try.func102, Try.ntmps102
        go_wp2_with fail
        refine (within_any' n 0 65536 w).mono ?_
        rw [HW.out]
        rintro e1 w1 ⟨rfl, rfl⟩
        go_wp2_with fail
        refine (isTame_any q _ q1).mono ?_
        rw [HT.out]
        rintro e1 w1 ⟨rfl, rfl⟩
        go_wp2
        go_loopw [8] (fun i wr => ∃ m : Nat, (m : Int) ≤ n + 16 ∧ i = .int .i64 (q % 72057594037927936 + (m : Int)) ∧ Hid (R.access q n = Ref.accFrom R.tag (q / 72057594037927936) (q % 72057594037927936) (n.toNat - m) m) ∧ Below w.heap.size w wr) (fun i _ => (q % 72057594037927936 + n - intOf i).toNat)
        case atStart => exact ⟨0, by omega, by simp, HA.out, Below.refl _ _⟩
        case round =>
          obtain ⟨m, hm, rfl, hA, hb⟩ := hrel
          have HRr := hide2 (HR.out.below hb)
          by_cases hlt : (m : Int) < n
          · have hst := onward_step R (q / 72057594037927936) (q % 72057594037927936) n m a0 hlt
            have HS1 := hide2 hst.1
            have HS2 := hide2 hst.2
            have at0 : 0 ≤ q % 72057594037927936 + (m : Int) := by omega
            have at1 : q % 72057594037927936 + (m : Int) ≤ 1000000 := by omega
            have hlt2 : q % 72057594037927936 + (m : Int) < q % 72057594037927936 + n := by omega
            obtain ⟨at_, hat⟩ : ∃ at_, at_ = q % 72057594037927936 + (m : Int) := ⟨_, rfl⟩
            have HATD := hide2 hat
            rw [← hat] at hlt2 at0 at1 HS1 HS2 ⊢
            clear hst hat hm
            have ON : Hid (onward (q % 72057594037927936) m = m + (16 - (q % 72057594037927936 + (m : Int)) % 16).toNat) := rfl
            by_cases hz : touchE (R.tag at_) (q / 72057594037927936) = 0
            · have HZ := hide2 hz
              clear hz
              go_wp2_with (first
                | (go_at_call 123; refine (touch_any p vc bb G R at_ (q / 72057594037927936) wr HRr.out HS.out (by omega) (by omega)).mono ?_; rw [HZ.out]; rintro e2 w2 ⟨rfl, hb2⟩)
                | (go_at_call 124; refine (nextGranule_any at_ _ at0 at1).mono ?_; rintro e3 w3 ⟨rfl, rfl⟩))
              go_roundw
              case rel => exact ⟨onward (q % 72057594037927936) m, by rw [ON.out]; omega, by rw [ON.out, HATD.out]; congr 1; omega, by show _ = _; rw [hA.out, HS2.out HZ.out], hb.trans (hb2.mono hb.size)⟩
              case measure => simp [intOf]; omega
            · have HZ := hide2 hz
              have hzb2 : (touchE (R.tag at_) (q / 72057594037927936) != 0) = true := by simp [hz]
              clear hz
              go_wp2_with (go_at_call 123; refine (touch_any p vc bb G R at_ (q / 72057594037927936) wr HRr.out HS.out (by omega) (by omega)).mono ?_; rintro e2 w2 ⟨rfl, hb2⟩)
              go_ret2
              exact ⟨by rw [hA.out, HS1.out HZ.out]; first | rfl | (rw [HATD.out]; rfl), hb.trans (hb2.mono hb.size)⟩
          · have HF : Hid (R.access q n = (0, 0)) := by
              show _ = _
              rw [hA.out, show n.toNat - m = 0 by omega]
              rfl
            have at0 : 0 ≤ q % 72057594037927936 + (m : Int) := by omega
            have at1 : q % 72057594037927936 + (m : Int) ≤ 1000000 := by omega
            have hge : q % 72057594037927936 + n ≤ q % 72057594037927936 + (m : Int) := by omega
            clear hA HA
            generalize q % 72057594037927936 + (m : Int) = at_ at *
            go_wp2
            go_ret2
            exact ⟨by rw [HF.out]; rfl, hb⟩

set_option maxRecDepth 100000 in
theorem gaccess_any (p : Nat) (vc : Value) (bb : Nat) (G : GSt) (R : RSt) (q n : Int) (w : World) (h : GRep w p vc bb G) (hs : Sim G R) (q1 : q ≤ 9223372036854775807) :
    Calls Try.prog 98 #[.pointer (some ⟨p, 0, none⟩), .int .i64 q, .int .i64 n] w fun e w' => e = .returned (.int .i64 (R.access q n).1) ∧ Below w.heap.size w w' := by
  have HR := hide2 h
  have HS := hide2 hs
  clear h hs
  go_enter Try.func98, Try.ntmps98
  go_wp2_with (go_at_call 102; refine (gdecide_any p vc bb G R q n w HR.out HS.out q1).mono ?_; rintro e2 w2 ⟨rfl, hb2⟩)
  go_ret
  exact ⟨rfl, hb2⟩
end Go.Proofs.Ytjikemhmnkckcaa
/- The document's Usable and Load. -/
namespace Go.Proofs.Ytjikemhmnkckcaa
open Go.RowKit

def RSt.usable (R : RSt) (q : Int) : Int × Int :=
  if (Ref.block R.st R.cls R.log q).2.2 ≠ 0 then (0, (Ref.block R.st R.cls R.log q).2.2)
  else (16 * (R.log.getD (Ref.given R.log (Ref.block R.st R.cls R.log q).1 (Ref.block R.st R.cls R.log q).2.1).toNat Ref.Ev.no).size, 0)
namespace Ref
/-- the unit, the number that were read after i bytes -/
def ldU : Nat → Int
  | 0 => 1
  | i + 1 => wrap64 (ldU i * 256)
def ldV (byte : Int → Int) (a : Int) : Nat → Int
  | 0 => 0
  | i + 1 => wrap64 (ldV byte a i + wrap64 (byte (a + i) * ldU i))
end Ref
def RSt.load (R : RSt) (q n : Int) : Int × Int :=
  if Ref.shapeB n = false then (0, 2) else if (R.access q n).1 ≠ 0 then (0, (R.access q n).1) else (Ref.ldV R.byte (q % 72057594037927936) n.toNat, 0)

theorem access_ok {R : RSt} {q n : Int} (h : (R.access q n).1 = 0) (hn : 0 < n) : Ref.tameB q = true ∧ n ≤ 65536 := by
  unfold RSt.access at h
  by_cases ha : n < 0 ∨ 65536 < n
  · rw [if_pos ha] at h; simp at h
  · rw [if_neg ha, if_neg (by omega)] at h
    cases ht : Ref.tameB q
    · rw [ht] at h; simp at h
    · exact ⟨rfl, by omega⟩

set_option maxRecDepth 100000 in
set_option maxHeartbeats 1600000 in
theorem rusable_any (p : Nat) (vc vl vm : Value) (R : RSt) (q : Int) (w : World) (h : RRep w p vc vl vm R) (ho : ROk R) (q1 : q ≤ 9223372036854775807) :
    Calls Try.prog 110 #[.pointer (some ⟨p, 0, none⟩), .int .i64 q] w fun e w' => e = .returned (.tuple #[.int .i64 (R.usable q).1, .int .i64 (R.usable q).2]) ∧ Below w.heap.size w w' := by
  have HR := hide2 h
  have HO := hide2 ho
  rcases block_cases R.st R.cls R.log q with he | ⟨k, s, he, hk, hsl, h3⟩
  · have HF : Hid (R.usable q = (0, (Ref.block R.st R.cls R.log q).2.2)) := if_pos he
    have heb : ((Ref.block R.st R.cls R.log q).2.2 != 0) = true := by simp [he]
    clear h ho he
    go_enter Try.func110, Try.ntmps110
    go_wp2_with (go_at_call 120; refine (rblock_any p vc vl vm R q w HR.out HO.out q1).mono ?_; rintro e1 w1 ⟨rfl, hb1⟩)
    go_ret2
    exact ⟨by rw [HF.out]; rfl, hb1⟩
  · have hgv : 0 ≤ Ref.given R.log k s := by
      unfold Ref.state at h3; split at h3
      · omega
      · omega
    have g2 := Ref.given_hi R.log k s
    have z0 := ho.size0 (Ref.given R.log k s).toNat
    have z1 := ho.size1 (Ref.given R.log k s).toNat
    have HF : Hid (R.usable q = (16 * (R.log.getD (Ref.given R.log k s).toNat Ref.Ev.no).size, 0)) := by
      show _ = _
      unfold RSt.usable
      rw [he, if_neg (by simp)]
    have HE := hide2 he
    have hp := h.blk.lt
    have c3 := h.blk.cell (j := 3) rfl
    obtain ⟨al, capl, rfl, hcapl, hmaxl, hrow⟩ := row_open h.log
    unfold maxLen at hmaxl
    obtain ⟨g, rfl, hgl, hcell, _⟩ := hrow (by omega)
    obtain ⟨_, _, _, _, d4, _⟩ := ev_cells hcell (Ref.given R.log k s).toNat (by omega)
    have hgn : (((Ref.given R.log k s).toNat : Nat) : Int) = Ref.given R.log k s := by omega
    have HGV : Hid (Ref.given R.log k s = Ref.given R.log k s) := rfl
    generalize R.log.getD (Ref.given R.log k s).toNat Ref.Ev.no = ev at *
    clear h ho he hcell hrow hsl h3
    go_enter Try.func110, Try.ntmps110
    go_wp2_with fail
    refine (rblock_any p vc _ vm R q w HR.out HO.out q1).mono ?_
    rw [HE.out]
    rintro e1 w1 ⟨rfl, hb1⟩
    go_wp2_with fail
    refine (given_any p vc _ vm R k s w1 (HR.out.below hb1)).mono ?_
    rintro e1 w2 ⟨rfl, hb2'⟩
    have hb2 : Below w.heap.size w w2 := hb1.trans (hb2'.mono hb1.size)
    have c3' := (hb2.cell (p := ⟨p, 3, none⟩) hp).trans c3
    have d4' := (hb2.cell (p := ⟨g, (Ref.given R.log k s).toNat * 6 + 4, none⟩) hgl).trans d4
    clear c3 d4 hb1 hb2'
    generalize Ref.given R.log k s = gv at *
    go_wp2
    go_ret2
    exact ⟨by rw [HF.out]; rfl, hb2⟩

set_option maxRecDepth 100000 in
set_option maxHeartbeats 1600000 in
theorem rload_any (p : Nat) (vc vl vm : Value) (R : RSt) (q n : Int) (w : World) (h : RRep w p vc vl vm R) (ho : ROk R) (q1 : q ≤ 9223372036854775807) :
    Calls Try.prog 83 #[.pointer (some ⟨p, 0, none⟩), .int .i64 q, .int .i64 n] w fun e w' => e = .returned (.tuple #[.int .i64 (R.load q n).1, .int .i64 (R.load q n).2]) ∧ Below w.heap.size w w' := by
  have HR := hide2 h
  have HO := hide2 ho
  clear h ho
  cases hsh : Ref.shapeB n
  · have HF : Hid (R.load q n = (0, 2)) := if_pos hsh
    go_enter Try.func83, Try.ntmps83
    go_wp2_with (go_at_call 111; refine (shape_any n w).mono ?_; rw [hsh]; rintro e1 w1 ⟨rfl, rfl⟩)
    go_ret2
    exact ⟨by rw [HF.out]; rfl, Below.refl _ _⟩
  · have HSH := hide2 hsh
    by_cases ha : (R.access q n).1 = 0
    · have hn := shape_of hsh
      have n0 : 0 < n := by omega
      have n1 : n ≤ 8 := by omega
      have HF : Hid (R.load q n = (Ref.ldV R.byte (q % 72057594037927936) n.toNat, 0)) := (if_neg (by simp [hsh])).trans (if_neg (by simp [ha]))
      have htm := (tame_iff q).1 (access_ok ha n0).1
      have HA := hide2 ha
      have q0 : 0 ≤ q := htm.1
      have a0 : 0 ≤ q % 72057594037927936 := by omega
      have a1 : q % 72057594037927936 ≤ 65535 := htm.2.2
      clear ha hn htm hsh
      go_enter Try.func83, Try.ntmps83
      go_wp2_with fail
      refine (shape_any n w).mono ?_
      rw [HSH.out]
      rintro e1 w1 ⟨rfl, rfl⟩
      go_wp2_with fail
      refine (raccess_any p vc vl vm R q n w HR.out HO.out q1).mono ?_
      rw [HA.out]
      rintro e1 w1 ⟨rfl, hb1⟩
      go_wp2
      go_loopw [11, 12, 13] (fun v u i wr => ∃ m : Nat, (m : Int) ≤ n ∧ i = .int .i64 (m : Int) ∧ v = .int .i64 (Ref.ldV R.byte (q % 72057594037927936) m) ∧ u = .int .i64 (Ref.ldU m) ∧ Below w.heap.size w wr) (fun _ _ i _ => (n - intOf i).toNat)
      case atStart => exact ⟨0, by omega, rfl, rfl, rfl, hb1⟩
      case round =>
        obtain ⟨m, hm, rfl, rfl, rfl, hb⟩ := hrel
        have HRr := hide2 (HR.out.below hb)
        by_cases hlt : (m : Int) < n
        · have hV : Hid (Ref.ldV R.byte (q % 72057594037927936) (m + 1) = wrap64 (Ref.ldV R.byte (q % 72057594037927936) m + wrap64 (R.byte (q % 72057594037927936 + m) * Ref.ldU m))) := rfl
          have hU : Hid (Ref.ldU (m + 1) = wrap64 (Ref.ldU m * 256)) := rfl
          have HB : Hid (R.byte (q % 72057594037927936 + m) = R.byte (q % 72057594037927936 + m)) := rfl
          have m0 : (0 : Int) ≤ (m : Int) := by omega
          generalize Ref.ldV R.byte (q % 72057594037927936) m = vv at *
          generalize Ref.ldU m = uu at *
          go_wp2_with (go_at_call 113; refine (rbyte_any p vc vl vm R (q % 72057594037927936 + m) wr HRr.out HO.out).mono ?_; rintro e2 w2 ⟨rfl, hb2⟩)
          go_roundw
          case rel => exact ⟨m + 1, by omega, by go_num, by rw [hV.out], by rw [hU.out], hb.trans (hb2.mono hb.size)⟩
          case measure => simp [intOf]; omega
        · obtain rfl : n = (m : Int) := by omega
          go_wp2
          go_ret2
          exact ⟨by rw [HF.out]; rfl, hb⟩
    · have HF : Hid (R.load q n = (0, (R.access q n).1)) := (if_neg (by simp [hsh])).trans (if_pos ha)
      have hab : ((R.access q n).1 != 0) = true := by simp [ha]
      clear ha hsh
      go_enter Try.func83, Try.ntmps83
      go_wp2_with fail
      refine (shape_any n w).mono ?_
      rw [HSH.out]
      rintro e1 w1 ⟨rfl, rfl⟩
      go_wp2_with (go_at_call 112; refine (raccess_any p vc vl vm R q n w HR.out HO.out q1).mono ?_; rintro e1 w1 ⟨rfl, hb1⟩)
      go_ret2
      exact ⟨by rw [HF.out]; rfl, hb1⟩
end Go.Proofs.Ytjikemhmnkckcaa
/- The document's Store. -/
namespace Go.Proofs.Ytjikemhmnkckcaa
open Go.RowKit

namespace Ref
/-- what is left of the value after i bytes -/
def stV (value : Int) : Nat → Int
  | 0 => value % 18446744073709551616
  | i + 1 => stV value i / 256
theorem stV_bd (value : Int) (i : Nat) : 0 ≤ stV value i ∧ stV value i ≤ 18446744073709551615 := by
  induction i with
  | zero => simp only [stV]; omega
  | succ i ih => simp only [stV]; omega
end Ref
def RSt.stores (R : RSt) (a value : Int) : Nat → RSt
  | 0 => R
  | i + 1 => (R.stores a value i).mark (a + i) (Ref.stV value i % 256)
theorem RSt.stores_same (R : RSt) (a value : Int) (i : Nat) : (R.stores a value i).st = R.st ∧ (R.stores a value i).rest = R.rest ∧ (R.stores a value i).cls = R.cls ∧ (R.stores a value i).log = R.log ∧ (R.stores a value i).marks.length = R.marks.length + i := by
  induction i with
  | zero => exact ⟨rfl, rfl, rfl, rfl, rfl⟩
  | succ i ih => exact ⟨ih.1, ih.2.1, ih.2.2.1, ih.2.2.2.1, by show ((R.stores a value i).marks ++ [(a + i, Ref.stV value i % 256, ((R.stores a value i).log.length : Int))]).length = _; rw [List.length_append, ih.2.2.2.2]; rfl⟩
def RSt.storeErr (R : RSt) (q n : Int) : Int := if Ref.shapeB n = false then 2 else (R.access q n).1
def RSt.store (R : RSt) (q n value : Int) : RSt := if R.storeErr q n = 0 then R.stores (q % 72057594037927936) value n.toNat else R

/-- marks were written: the heap's block and the list of marks alone were touched -/
structure Marked (w : World) (p : Nat) (vc vl vm : Value) (wr : World) (vm' : Value) (R' : RSt) : Prop where
  rep : RRep wr p vc vl vm' R'
  kept : Kept w wr (fun x => x = p ∨ vm.ownBlock = some x)
  new : NewBlk vm vm' w
theorem Marked.start {w wr : World} {p : Nat} {vc vl vm : Value} {R : RSt} (h : RRep w p vc vl vm R) (hb : Below w.heap.size w wr) : Marked w p vc vl vm wr vm R :=
  ⟨h.below hb, Kept.of_below hb _, fun _ hg => .inl hg⟩
theorem Marked.below {w wr w' : World} {p : Nat} {vc vl vm vm' : Value} {R' : RSt} (h : Marked w p vc vl vm wr vm' R') (hb : Below wr.heap.size wr w') : Marked w p vc vl vm w' vm' R' :=
  ⟨h.rep.below hb, h.kept.trans (Kept.of_below hb _), h.new⟩
theorem Marked.step {w wr w' : World} {p : Nat} {vc vl vm vm' vm'' : Value} {R' R'' : RSt} (h : Marked w p vc vl vm wr vm' R') (hR : RRep w' p vc vl vm'' R'') (hk : Kept wr w' (fun x => x = p ∨ vm'.ownBlock = some x)) (hn : NewBlk vm' vm'' wr) : Marked w p vc vl vm w' vm'' R'' := by
  refine ⟨hR, ⟨hk.os.trans h.kept.os, hk.tape.trans h.kept.tape, hk.output.trans h.kept.output, Nat.le_trans h.kept.size hk.size, fun k hlt hs => ?_⟩, fun g hg => ?_⟩
  · refine (hk.block k (Nat.lt_of_lt_of_le hlt h.kept.size) (fun x => ?_)).trans (h.kept.block k hlt hs)
    rcases x with x | x
    · exact hs (.inl x)
    · rcases h.new k x with x | x
      · exact hs (.inr x)
      · omega
  · rcases hn g hg with x | x
    · exact h.new g x
    · exact .inr (Nat.le_trans h.kept.size x)

set_option maxRecDepth 100000 in
set_option maxHeartbeats 1600000 in
theorem rstore_any (p : Nat) (vc vl vm : Value) (R : RSt) (q n value : Int) (w : World) (h : RRep w p vc vl vm R) (ho : ROk R) (q1 : q ≤ 9223372036854775807) (hroom : (R.marks.length + 8) * 24 ≤ 140737488355328) :
    Calls Try.prog 85 #[.pointer (some ⟨p, 0, none⟩), .int .i64 q, .int .i64 n, .int .i64 value] w fun e w' => ∃ vm', e = .returned (.int .i64 (R.storeErr q n)) ∧ Marked w p vc vl vm w' vm' (R.store q n value) := by
  have HR := hide2 h
  have HO := hide2 ho
  clear h ho
  cases hsh : Ref.shapeB n
  · have HE : Hid (R.storeErr q n = 2) := if_pos hsh
    have HF : Hid (R.store q n value = R) := if_neg (by rw [HE.out]; decide)
    go_enter Try.func85, Try.ntmps85
    go_wp2_with (go_at_call 111; refine (shape_any n w).mono ?_; rw [hsh]; rintro e1 w1 ⟨rfl, rfl⟩)
    go_ret
    exact ⟨vm, by rw [HE.out]; rfl, by rw [HF.out]; exact Marked.start HR.out (Below.refl _ _)⟩
  · have HSH := hide2 hsh
    have HE : Hid (R.storeErr q n = (R.access q n).1) := if_neg (by simp [hsh])
    by_cases ha : (R.access q n).1 = 0
    · have hn := shape_of hsh
      have n0 : 0 < n := by omega
      have n1 : n ≤ 8 := by omega
      have HF : Hid (R.store q n value = R.stores (q % 72057594037927936) value n.toNat) := if_pos (by rw [HE.out, ha])
      have htm := (tame_iff q).1 (access_ok ha n0).1
      have HA := hide2 ha
      have q0 : 0 ≤ q := htm.1
      have a0 : 0 ≤ q % 72057594037927936 := by omega
      have a1 : q % 72057594037927936 ≤ 65535 := htm.2.2
      have HV0 : Hid (Ref.stV value 0 = value % 18446744073709551616) := rfl
      clear ha hn htm hsh
      go_enter Try.func85, Try.ntmps85
      go_wp2_with fail
      refine (shape_any n w).mono ?_
      rw [HSH.out]
      rintro e1 w1 ⟨rfl, rfl⟩
      go_wp2_with fail
      refine (raccess_any p vc vl vm R q n w HR.out HO.out q1).mono ?_
      rw [HA.out]
      rintro e1 w1 ⟨rfl, hb1⟩
      go_wp2
      go_loopw [12, 13] (fun v i wr => ∃ (m : Nat) (vmr : Value), (m : Int) ≤ n ∧ i = .int .i64 (m : Int) ∧ v = .int .u64 (Ref.stV value m) ∧ Marked w p vc vl vm wr vmr (R.stores (q % 72057594037927936) value m)) (fun _ i _ => (n - intOf i).toNat)
      case atStart => exact ⟨0, vm, by omega, rfl, rfl, Marked.start HR.out hb1⟩
      case round =>
        obtain ⟨m, vmr, hm, rfl, rfl, hM⟩ := hrel
        have HM := hide2 hM
        clear hM
        by_cases hlt : (m : Int) < n
        · have hV : Hid (Ref.stV value (m + 1) = Ref.stV value m / 256) := rfl
          have hS : Hid (R.stores (q % 72057594037927936) value (m + 1) = (R.stores (q % 72057594037927936) value m).mark (q % 72057594037927936 + m) (Ref.stV value m % 256)) := rfl
          have hl := (R.stores_same (q % 72057594037927936) value m).2.2.2.2
          have hv := Ref.stV_bd value m
          have v0 := hv.1
          have v1 := hv.2
          have m0 : (0 : Int) ≤ (m : Int) := by omega
          have hrm : ((R.stores (q % 72057594037927936) value m).marks.length + 1) * 24 ≤ 140737488355328 := by omega
          clear hv hl
          generalize Ref.stV value m = vv at *
          generalize R.stores (q % 72057594037927936) value m = Rm at *
          go_wp2_with (go_at_call 115; refine (rmark_any p vc vl vmr Rm (q % 72057594037927936 + m) (vv % 256) wr HM.out.rep hrm).mono ?_; rintro e2 w2 ⟨vm2, rfl, hR2, hk2, hn2⟩)
          go_roundw
          case rel => exact ⟨m + 1, vm2, by omega, by go_num, by rw [hV.out], by rw [hS.out]; exact HM.out.step hR2 hk2 hn2⟩
          case measure => simp [intOf]; omega
        · obtain rfl : n = (m : Int) := by omega
          go_wp2
          go_ret
          exact ⟨by rw [HE.out, HA.out]; rfl, vmr, by rw [HF.out]; exact HM.out⟩
    · have HF : Hid (R.store q n value = R) := if_neg (by rw [HE.out]; exact ha)
      have hab : ((R.access q n).1 != 0) = true := by simp [ha]
      clear ha hsh
      go_enter Try.func85, Try.ntmps85
      go_wp2_with fail
      refine (shape_any n w).mono ?_
      rw [HSH.out]
      rintro e1 w1 ⟨rfl, rfl⟩
      go_wp2_with (go_at_call 112; refine (raccess_any p vc vl vm R q n w HR.out HO.out q1).mono ?_; rintro e1 w1 ⟨rfl, hb1⟩)
      go_ret
      exact ⟨vm, by rw [HE.out]; rfl, by rw [HF.out]; exact Marked.start HR.out hb1⟩
end Go.Proofs.Ytjikemhmnkckcaa
