import Derived.Test.YtlonnenlmaijgaaJ20
import Derived.Test.YtlonnenlmaijgaaJ27
/- The program's access: a granule at a time. -/
namespace Go.Proofs.Ytlonnenlmaijgaa
open Go.RowKit

namespace Cf
theorem inS_gran (st : Int) (cls : List (Int × Int)) (addr : Int) (k s : Nat) : inS st cls (addr - addr % 16) k s = inS st cls addr k s := by
  unfold inS begin_
  generalize gran st cls k + (s : Int) * gr cls k = b
  generalize gr cls k = g
  congr 1 <;> (rw [decide_eq_decide]; omega)
theorem slotIn_gran (st : Int) (cls : List (Int × Int)) (addr : Int) (k : Nat) : slotIn st cls (addr - addr % 16) k = slotIn st cls addr k := by
  unfold slotIn
  rw [show inS st cls (addr - addr % 16) k = inS st cls addr k from funext fun s => inS_gran st cls addr k s]
theorem slotFrom_gran (st : Int) (cls : List (Int × Int)) (addr : Int) (f k : Nat) : slotFrom st cls (addr - addr % 16) f k = slotFrom st cls addr f k := by
  induction f generalizing k with
  | zero => rfl
  | succ f ih => simp only [slotFrom, slotIn_gran, ih]
theorem slot_gran (st : Int) (cls : List (Int × Int)) (addr : Int) : slot st cls (addr - addr % 16) = slot st cls addr := slotFrom_gran _ _ _ _ _
theorem tag_gran (st : Int) (cls : List (Int × Int)) (log : List Ref.Ev) (addr : Int) : tag st cls log (addr - addr % 16) = tag st cls log addr := by
  unfold tag
  rw [slot_gran]
  generalize (slot st cls addr).1 = k
  generalize (slot st cls addr).2 = s
  have e : (begin_ st cls k.toNat s + 16 * (log.getD (Ref.given log k s).toNat Ref.Ev.no).size ≤ addr - addr % 16) ↔ (begin_ st cls k.toNat s + 16 * (log.getD (Ref.given log k s).toNat Ref.Ev.no).size ≤ addr) := by
    unfold begin_
    generalize gran st cls k.toNat + s * gr cls k.toNat = b
    generalize (log.getD (Ref.given log k s).toNat Ref.Ev.no).size = z
    omega
  have e2 : (16 ≤ addr - addr % 16 ∧ addr - addr % 16 < 16 * (1 + st)) ↔ (16 ≤ addr ∧ addr < 16 * (1 + st)) := by omega
  simp only [e, e2]
end Cf

theorem RSt.tag_same (R : RSt) (a b : Int) (h : a / 16 = b / 16) : R.tag a = R.tag b := by
  unfold RSt.tag
  rw [← Cf.tag_gran R.st R.cls R.log a, ← Cf.tag_gran R.st R.cls R.log b, show a - a % 16 = b - b % 16 by omega]

def touchE (tg t : Int) : Int := if tg = -1 then 6 else if tg = 15 ∨ tg ≠ t then 7 else 0

namespace Ref
theorem accFrom_skip (tag : Int → Int) (t a : Int) (d f i : Nat) (hd : d ≤ f) (h : ∀ j : Nat, i ≤ j → j < i + d → touchE (tag (a + j)) t = 0) : accFrom tag t a f i = accFrom tag t a (f - d) (i + d) := by
  induction d generalizing f i with
  | zero => rfl
  | succ d ih =>
    obtain ⟨f', rfl⟩ : ∃ f', f = f' + 1 := ⟨f - 1, by omega⟩
    have h0 := h i (by omega) (by omega)
    have e : accFrom tag t a (f' + 1) i = accFrom tag t a f' (i + 1) := by
      unfold touchE at h0
      simp only [accFrom]
      by_cases h1 : tag (a + i) = -1
      · rw [if_pos h1] at h0; simp at h0
      · rw [if_neg h1] at h0 ⊢
        by_cases h2 : tag (a + i) = 15 ∨ tag (a + i) ≠ t
        · rw [if_pos h2] at h0; simp at h0
        · rw [if_neg h2]
    rw [e, ih f' (i + 1) (by omega) (fun j h1 h2 => h j (by omega) (by omega)), show f' + 1 - (d + 1) = f' - d by omega, show i + 1 + d = i + (d + 1) by omega]
theorem accFrom_stop (tag : Int → Int) (t a : Int) (f i : Nat) (hf : 0 < f) (h : touchE (tag (a + i)) t ≠ 0) : (accFrom tag t a f i).1 = touchE (tag (a + i)) t := by
  obtain ⟨f', rfl⟩ : ∃ f', f = f' + 1 := ⟨f - 1, by omega⟩
  simp only [accFrom]
  unfold touchE at h ⊢
  by_cases h1 : tag (a + i) = -1
  · rw [if_pos h1, if_pos h1]
  · rw [if_neg h1] at h ⊢
    by_cases h2 : tag (a + i) = 15 ∨ tag (a + i) ≠ t
    · rw [if_pos h2, if_neg h1, if_pos h2]
    · rw [if_neg h2] at h; exact absurd rfl h
end Ref

/-- how many bytes lie behind us when the granule at 'at' is touched next -/
def behind (a at_ n : Int) : Nat := (min n (max 0 (at_ - a))).toNat

theorem behind_step (R : RSt) (t a n : Int) (m : Nat) (_a0 : 0 ≤ a) (hn : 0 < n) (hlt : a - a % 16 + 16 * (m : Int) < a + n) :
    (touchE (R.tag (a - a % 16 + 16 * (m : Int))) t ≠ 0 → (Ref.accFrom R.tag t a (n.toNat - behind a (a - a % 16 + 16 * (m : Int)) n) (behind a (a - a % 16 + 16 * (m : Int)) n)).1 = touchE (R.tag (a - a % 16 + 16 * (m : Int))) t) ∧
    (touchE (R.tag (a - a % 16 + 16 * (m : Int))) t = 0 → Ref.accFrom R.tag t a (n.toNat - behind a (a - a % 16 + 16 * (m : Int)) n) (behind a (a - a % 16 + 16 * (m : Int)) n) = Ref.accFrom R.tag t a (n.toNat - behind a (a - a % 16 + 16 * ((m + 1 : Nat) : Int)) n) (behind a (a - a % 16 + 16 * ((m + 1 : Nat) : Int)) n)) := by
  have hb : behind a (a - a % 16 + 16 * (m : Int)) n < n.toNat := by unfold behind; omega
  have same : ∀ j : Nat, behind a (a - a % 16 + 16 * (m : Int)) n ≤ j → j < behind a (a - a % 16 + 16 * ((m + 1 : Nat) : Int)) n → R.tag (a + j) = R.tag (a - a % 16 + 16 * (m : Int)) := fun j h1 h2 => by
    refine R.tag_same _ _ ?_
    unfold behind at h1 h2
    omega
  have h01 : behind a (a - a % 16 + 16 * (m : Int)) n < behind a (a - a % 16 + 16 * ((m + 1 : Nat) : Int)) n := by unfold behind; omega
  have h1n : behind a (a - a % 16 + 16 * ((m + 1 : Nat) : Int)) n ≤ n.toNat := by unfold behind; omega
  constructor
  · intro h
    rw [← same _ (Nat.le_refl _) h01] at h ⊢
    exact Ref.accFrom_stop R.tag t a _ _ (by omega) h
  · intro h
    have e := Ref.accFrom_skip R.tag t a (behind a (a - a % 16 + 16 * ((m + 1 : Nat) : Int)) n - behind a (a - a % 16 + 16 * (m : Int)) n) (n.toNat - behind a (a - a % 16 + 16 * (m : Int)) n) (behind a (a - a % 16 + 16 * (m : Int)) n) (by omega) (fun j h1 h2 => by rw [same j h1 (by omega)]; exact h)
    rw [e]
    congr 1 <;> omega

set_option maxRecDepth 100000 in
set_option maxHeartbeats 800000 in
theorem touch_any (p : Nat) (vc : Value) (bb : Nat) (G : GSt) (R : RSt) (addr t : Int) (w : World) (h : GRep w p vc bb G) (hs : Sim G R) (a0 : -9223372036854775808 ≤ addr) (a1 : addr ≤ 9223372036854775807) :
    Calls Try.prog 115 #[.pointer (some ⟨p, 0, none⟩), .int .i64 addr, .int .i64 t] w fun e w' => e = .returned (.int .i64 (touchE (R.tag addr) t)) ∧ Below w.heap.size w w' := by
  have HR := hide2 h
  have HS := hide2 hs
  have HTG : Hid (gtag G R.cls addr = R.tag addr) := hs.tag addr
  clear h hs
  have HF : Hid (touchE (R.tag addr) t = if R.tag addr = -1 then 6 else if R.tag addr = 15 ∨ R.tag addr ≠ t then 7 else 0) := rfl
  generalize touchE (R.tag addr) t = res at *
  generalize R.tag addr = tg at *
  by_cases h1 : tg = -1
  · have HF2 : Hid (res = 6) := HF.out.trans (if_pos h1)
    have hb1 : (tg == -1) = true := by simp [h1]
    clear HF h1
    go_enter Try.func115, Try.ntmps115
    go_wp2_with (go_at_call 15; refine (gtag_any p vc bb G R.rest R.cls addr w HR.out HS.out.ok HS.out.bd a0 a1).mono ?_; rw [HTG.out]; rintro e2 w2 ⟨rfl, hb2⟩)
    go_ret
    exact ⟨by rw [HF2.out]; rfl, hb2⟩
  · have hb1 : (tg == -1) = false := by rw [beq_eq_false_iff_ne]; exact h1
    by_cases h2 : tg = 15 ∨ tg ≠ t
    · have HF2 : Hid (res = 7) := HF.out.trans ((if_neg h1).trans (if_pos h2))
      clear HF h1
      by_cases h3 : tg = 15
      · have hb3 : (tg == 15) = true := by simp [h3]
        clear h2 h3
        go_enter Try.func115, Try.ntmps115
        go_wp2_with (go_at_call 15; refine (gtag_any p vc bb G R.rest R.cls addr w HR.out HS.out.ok HS.out.bd a0 a1).mono ?_; rw [HTG.out]; rintro e2 w2 ⟨rfl, hb2⟩)
        go_ret
        exact ⟨by rw [HF2.out]; rfl, hb2⟩
      · have hb3 : (tg == 15) = false := by rw [beq_eq_false_iff_ne]; exact h3
        have hb4 : (tg != t) = true := by simp; omega
        clear h2 h3
        go_enter Try.func115, Try.ntmps115
        go_wp2_with (go_at_call 15; refine (gtag_any p vc bb G R.rest R.cls addr w HR.out HS.out.ok HS.out.bd a0 a1).mono ?_; rw [HTG.out]; rintro e2 w2 ⟨rfl, hb2⟩)
        go_ret
        exact ⟨by rw [HF2.out]; rfl, hb2⟩
    · have HF2 : Hid (res = 0) := HF.out.trans ((if_neg h1).trans (if_neg h2))
      have hb3 : (tg == 15) = false := by rw [beq_eq_false_iff_ne]; omega
      have hb4 : (tg != t) = false := by simp; omega
      clear HF h1 h2
      go_enter Try.func115, Try.ntmps115
      go_wp2_with (go_at_call 15; refine (gtag_any p vc bb G R.rest R.cls addr w HR.out HS.out.ok HS.out.bd a0 a1).mono ?_; rw [HTG.out]; rintro e2 w2 ⟨rfl, hb2⟩)
      go_ret
      exact ⟨by rw [HF2.out]; rfl, hb2⟩

theorem within_len {n : Int} : withinB n 0 65536 = false ↔ (n < 0 ∨ 65536 < n) := by
  unfold withinB
  rw [Bool.and_eq_false_iff, decide_eq_false_iff_not, decide_eq_false_iff_not]; omega

theorem within_any' (n lo hi : Int) (w : World) : Calls Try.prog 94 #[.int .i64 n, .int .i64 lo, .int .i64 hi] w fun e w' => e = .returned (.bool (withinB n lo hi)) ∧ w = w' :=
  (within_any n lo hi w).mono (fun _ _ h => ⟨h.1, h.2.symm⟩)

set_option maxRecDepth 100000 in
set_option maxHeartbeats 1600000 in
theorem gaccess_any (p : Nat) (vc : Value) (bb : Nat) (G : GSt) (R : RSt) (q n : Int) (w : World) (h : GRep w p vc bb G) (hs : Sim G R) (q1 : q ≤ 9223372036854775807) :
    Calls Try.prog 93 #[.pointer (some ⟨p, 0, none⟩), .int .i64 q, .int .i64 n] w fun e w' => e = .returned (.int .i64 (R.access q n).1) ∧ Below w.heap.size w w' := by
  have HR := hide2 h
  have HS := hide2 hs
  clear h hs
  by_cases ha : n < 0 ∨ 65536 < n
  · have HA : Hid ((R.access q n).1 = 2) := by show _ = _; unfold RSt.access; rw [if_pos ha]
    have HW := hide2 (within_len.2 ha)
    clear ha
    go_enter Try.func93, Try.ntmps93
    go_wp2_with (go_at_call 94; refine (within_any' n 0 65536 w).mono ?_; rw [HW.out]; rintro e1 w1 ⟨rfl, rfl⟩)
    go_ret
    exact ⟨by rw [HA.out]; rfl, Below.refl _ _⟩
  · have hn0 : 0 ≤ n := by omega
    have hn1 : n ≤ 65536 := by omega
    have HW : Hid (withinB n 0 65536 = true) := by
      show _ = _
      cases e : withinB n 0 65536
      · exact absurd (within_len.1 e) ha
      · rfl
    by_cases hz : n = 0
    · have HA : Hid ((R.access q n).1 = 0) := by show _ = _; unfold RSt.access; rw [if_neg ha, if_pos hz]
      clear ha
      subst hz
      go_enter Try.func93, Try.ntmps93
      go_wp2_with (go_at_call 94; refine (within_any' 0 0 65536 w).mono ?_; rw [HW.out]; rintro e1 w1 ⟨rfl, rfl⟩)
      go_ret
      exact ⟨by rw [HA.out]; rfl, Below.refl _ _⟩
    · have hzb : (n == 0) = false := by rw [beq_eq_false_iff_ne]; exact hz
      have hnp : 0 < n := by omega
      cases ht : Ref.tameB q
      · have HA : Hid ((R.access q n).1 = 5) := by show _ = _; unfold RSt.access; rw [if_neg ha, if_neg hz, ht]; rfl
        have HT := hide2 ht
        clear ha hz ht
        go_enter Try.func93, Try.ntmps93
        go_wp2_with fail
        refine (within_any' n 0 65536 w).mono ?_
        rw [HW.out]
        rintro e1 w1 ⟨rfl, rfl⟩
        go_wp2_with (go_at_call 114; refine (isTame_any q _ q1).mono ?_; rw [HT.out]; rintro e1 w1 ⟨rfl, rfl⟩)
        go_ret
        exact ⟨by rw [HA.out]; rfl, Below.refl _ _⟩
      · have HA : Hid ((R.access q n).1 = (Ref.accFrom R.tag (q / 72057594037927936) (q % 72057594037927936) n.toNat 0).1) := by show _ = _; unfold RSt.access; rw [if_neg ha, if_neg hz, ht]; rfl
        have htm := (tame_iff q).1 ht
        have HT := hide2 ht
        have q0 : 0 ≤ q := htm.1
        have a0 : 0 ≤ q % 72057594037927936 := by omega
        have a1 : q % 72057594037927936 ≤ 65535 := htm.2.2
        clear ha hz ht htm
        go_enter Try.func93, Try.ntmps93
        go_wp2_with fail
        refine (within_any' n 0 65536 w).mono ?_
        rw [HW.out]
        rintro e1 w1 ⟨rfl, rfl⟩
        go_wp2_with fail
        refine (isTame_any q _ q1).mono ?_
        rw [HT.out]
        rintro e1 w1 ⟨rfl, rfl⟩
        have HG : Hid (q % 72057594037927936 % 16 = q % 16) := by show _ = _; omega
        have g0 : 0 ≤ q % 16 := by omega
        have g1 : q % 16 ≤ 15 := by omega
        go_wp2
        rw [HG.out]
        go_loopw [8] (fun i wr => ∃ m : Nat, q % 72057594037927936 - q % 16 + 16 * (m : Int) < q % 72057594037927936 + n + 16 ∧ i = .int .i64 (q % 72057594037927936 - q % 16 + 16 * (m : Int)) ∧ Hid ((R.access q n).1 = (Ref.accFrom R.tag (q / 72057594037927936) (q % 72057594037927936) (n.toNat - behind (q % 72057594037927936) (q % 72057594037927936 - q % 16 + 16 * (m : Int)) n) (behind (q % 72057594037927936) (q % 72057594037927936 - q % 16 + 16 * (m : Int)) n)).1) ∧ Below w.heap.size w wr) (fun i _ => (q % 72057594037927936 + n - intOf i).toNat)
        case atStart => exact ⟨0, by omega, by simp, by rw [show behind (q % 72057594037927936) (q % 72057594037927936 - q % 16 + 16 * ((0 : Nat) : Int)) n = 0 by unfold behind; omega]; exact HA.out, Below.refl _ _⟩
        case round =>
          obtain ⟨m, hm, rfl, hA, hb⟩ := hrel
          have HRr := hide2 (HR.out.below hb)
          by_cases hlt : q % 72057594037927936 - q % 16 + 16 * (m : Int) < q % 72057594037927936 + n
          · have hst := behind_step R (q / 72057594037927936) (q % 72057594037927936) n m a0 hnp (by rw [HG.out]; exact hlt)
            rw [HG.out] at hst
            have HS1 := hide2 hst.1
            have HS2 := hide2 hst.2
            have at0 : 0 ≤ q % 72057594037927936 - q % 16 + 16 * (m : Int) := by omega
            have at1 : q % 72057594037927936 - q % 16 + 16 * (m : Int) ≤ 1000000 := by omega
            obtain ⟨at_, hat⟩ : ∃ at_, at_ = q % 72057594037927936 - q % 16 + 16 * (m : Int) := ⟨_, rfl⟩
            have HATD := hide2 hat
            rw [← hat] at hlt at0 at1 HS1 HS2 hA ⊢
            clear hst hat hm
            by_cases hz : touchE (R.tag at_) (q / 72057594037927936) = 0
            · have HZ := hide2 hz
              clear hz
              go_wp2_with (go_at_call 115; refine (touch_any p vc bb G R at_ (q / 72057594037927936) wr HRr.out HS.out (by omega) (by omega)).mono ?_; rw [HZ.out]; rintro e2 w2 ⟨rfl, hb2⟩)
              go_roundw
              case rel => exact ⟨m + 1, by have := HATD.out; omega, by rw [HATD.out]; go_num, by show _ = _; rw [hA.out, HS2.out HZ.out], hb.trans (hb2.mono hb.size)⟩
              case measure => simp [intOf]; omega
            · have HZ := hide2 hz
              have hzb2 : (touchE (R.tag at_) (q / 72057594037927936) != 0) = true := by simp [hz]
              clear hz
              go_wp2_with (go_at_call 115; refine (touch_any p vc bb G R at_ (q / 72057594037927936) wr HRr.out HS.out (by omega) (by omega)).mono ?_; rintro e2 w2 ⟨rfl, hb2⟩)
              go_ret
              exact ⟨by rw [hA.out, HS1.out HZ.out]; rfl, hb.trans (hb2.mono hb.size)⟩
          · have HF : Hid ((R.access q n).1 = 0) := by
              show _ = _
              rw [hA.out, show n.toNat - behind (q % 72057594037927936) (q % 72057594037927936 - q % 16 + 16 * (m : Int)) n = 0 by unfold behind; omega]
              rfl
            have at0 : 0 ≤ q % 72057594037927936 - q % 16 + 16 * (m : Int) := by omega
            have at1 : q % 72057594037927936 - q % 16 + 16 * (m : Int) ≤ 1000000 := by omega
            clear hA HA
            generalize q % 72057594037927936 - q % 16 + 16 * (m : Int) = at_ at *
            go_wp2
            go_ret
            exact ⟨by rw [HF.out]; rfl, hb⟩
end Go.Proofs.Ytlonnenlmaijgaa
