import Derived.Test.YtjikemhmnkckcaaJ35
/- The document's access: shape, Access, Usable. -/
namespace Go.Proofs.Ytjikemhmnkckcaa
open Go.RowKit

namespace Ref
def shapeB (n : Int) : Bool := n == 1 || n == 2 || n == 4 || n == 8
/-- one byte after the other: the error, the address -/
def accFrom (tag : Int → Int) (t a : Int) : Nat → Nat → Int × Int
  | 0, _ => (0, 0)
  | f + 1, i => if tag (a + i) = -1 then (6, a + i) else if tag (a + i) = 15 ∨ tag (a + i) ≠ t then (7, a + i) else accFrom tag t a f (i + 1)
end Ref
def RSt.tag (R : RSt) (addr : Int) : Int := Cf.tag R.st R.cls R.log addr
def RSt.access (R : RSt) (q n : Int) : Int × Int :=
  if n < 0 ∨ 65536 < n then (2, 0) else if n = 0 then (0, 0) else if Ref.tameB q then Ref.accFrom R.tag (q / 72057594037927936) (q % 72057594037927936) n.toNat 0 else (5, 0)

theorem shape_of {n : Int} (h : Ref.shapeB n = true) : n = 1 ∨ n = 2 ∨ n = 4 ∨ n = 8 := by simpa [Ref.shapeB, or_assoc] using h
theorem shape_no {n : Int} (h1 : n ≠ 1) (h2 : n ≠ 2) (h4 : n ≠ 4) (h8 : n ≠ 8) : Ref.shapeB n = false := by simp [Ref.shapeB, *]

set_option maxRecDepth 100000 in
set_option maxHeartbeats 800000 in
theorem shape_any (n : Int) (w : World) :
    Calls Try.prog 111 #[.int .i64 n] w fun e w' => e = .returned (.bool (Ref.shapeB n)) ∧ w = w' := by
  go_enter Try.func111, Try.ntmps111
  go_wp2
  go_loopw [3] (fun i wr => w = wr ∧ (i = .int .i64 1 ∨ (i = .int .i64 2 ∧ n ≠ 1) ∨ (i = .int .i64 4 ∧ n ≠ 1 ∧ n ≠ 2) ∨ (i = .int .i64 8 ∧ n ≠ 1 ∧ n ≠ 2 ∧ n ≠ 4) ∨ (i = .int .i64 16 ∧ n ≠ 1 ∧ n ≠ 2 ∧ n ≠ 4 ∧ n ≠ 8))) (fun i _ => (16 - intOf i).toNat)
  case atStart => exact ⟨rfl, .inl rfl⟩
  case round =>
    obtain ⟨rfl, hd⟩ := hrel
    rcases hd with rfl | ⟨rfl, h1⟩ | ⟨rfl, h1, h2⟩ | ⟨rfl, h1, h2, h4⟩ | ⟨rfl, h1, h2, h4, h8⟩
    · by_cases hn : n = 1
      · subst hn
        go_wp2
        go_ret
        exact ⟨rfl, rfl⟩
      · have hb : ((1 : Int) == n) = false := by rw [beq_eq_false_iff_ne]; omega
        have HN := hide2 hn
        clear hn
        go_wp2
        go_roundw
        case rel => have hh := HN.out; simp [hh]
        case measure => simp [intOf]
    · by_cases hn : n = 2
      · subst hn
        go_wp2
        go_ret
        exact ⟨rfl, rfl⟩
      · have hb : ((2 : Int) == n) = false := by rw [beq_eq_false_iff_ne]; omega
        have HN := hide2 (And.intro h1 hn)
        clear hn h1
        go_wp2
        go_roundw
        case rel => have hh := HN.out; simp [hh]
        case measure => simp [intOf]
    · by_cases hn : n = 4
      · subst hn
        go_wp2
        go_ret
        exact ⟨rfl, rfl⟩
      · have hb : ((4 : Int) == n) = false := by rw [beq_eq_false_iff_ne]; omega
        have HN := hide2 (And.intro h1 (And.intro h2 hn))
        clear hn h1 h2
        go_wp2
        go_roundw
        case rel => have hh := HN.out; simp [hh]
        case measure => simp [intOf]
    · by_cases hn : n = 8
      · subst hn
        go_wp2
        go_ret
        exact ⟨rfl, rfl⟩
      · have hb : ((8 : Int) == n) = false := by rw [beq_eq_false_iff_ne]; omega
        have HN := hide2 (And.intro h1 (And.intro h2 (And.intro h4 hn)))
        clear hn h1 h2 h4
        go_wp2
        go_roundw
        case rel => have hh := HN.out; simp [hh]
        case measure => simp [intOf]
    · have HN := hide2 (shape_no h1 h2 h4 h8)
      clear h1 h2 h4 h8
      go_wp2
      go_ret
      exact ⟨by rw [HN.out]; rfl, rfl⟩

set_option maxRecDepth 100000 in
set_option maxHeartbeats 1600000 in
theorem raccess_any (p : Nat) (vc vl vm : Value) (R : RSt) (q n : Int) (w : World) (h : RRep w p vc vl vm R) (ho : ROk R) (q1 : q ≤ 9223372036854775807) :
    Calls Try.prog 112 #[.pointer (some ⟨p, 0, none⟩), .int .i64 q, .int .i64 n] w fun e w' => e = .returned (.tuple #[.int .i64 (R.access q n).1, .int .i64 (R.access q n).2]) ∧ Below w.heap.size w w' := by
  have HR := hide2 h
  have HO := hide2 ho
  clear h ho
  by_cases ha : n < 0 ∨ 65536 < n
  · have HA : Hid (R.access q n = (2, 0)) := if_pos ha
    by_cases h0 : n < 0
    · go_enter Try.func112, Try.ntmps112
      go_wp2
      go_ret2
      exact ⟨by rw [HA.out]; rfl, Below.refl _ _⟩
    · have h1 : 65536 < n := by omega
      have h2 : 0 ≤ n := by omega
      go_enter Try.func112, Try.ntmps112
      go_wp2
      go_ret2
      exact ⟨by rw [HA.out]; rfl, Below.refl _ _⟩
  · have hn0 : 0 ≤ n := by omega
    have hn1 : n ≤ 65536 := by omega
    by_cases hz : n = 0
    · have HA : Hid (R.access q n = (0, 0)) := (if_neg ha).trans (if_pos hz)
      clear ha
      subst hz
      go_enter Try.func112, Try.ntmps112
      go_wp2
      go_ret2
      exact ⟨by rw [HA.out]; rfl, Below.refl _ _⟩
    · have hzb : (n == 0) = false := by rw [beq_eq_false_iff_ne]; exact hz
      cases ht : Ref.tameB q
      · have HA : Hid (R.access q n = (5, 0)) := (if_neg ha).trans ((if_neg hz).trans (by rw [ht]; rfl))
        clear ha hz
        go_enter Try.func112, Try.ntmps112
        go_wp2_with (go_at_call 117; refine (tame_no _ _ q1 ht).mono ?_; rintro e1 w1 ⟨rfl, rfl⟩)
        go_ret2
        exact ⟨by rw [HA.out]; rfl, Below.refl _ _⟩
      · have HA : Hid (R.access q n = Ref.accFrom R.tag (q / 72057594037927936) (q % 72057594037927936) n.toNat 0) := (if_neg ha).trans ((if_neg hz).trans (by rw [ht]; rfl))
        have htm := (tame_iff q).1 ht
        have HT := hide2 ht
        have a0 : 0 ≤ q % 72057594037927936 := by omega
        have a1 : q % 72057594037927936 ≤ 65535 := htm.2.2
        clear ha hz ht htm
        go_enter Try.func112, Try.ntmps112
        go_wp2_with fail
        refine (tame_yes _ _ q1 HT.out).mono ?_
        rintro e1 w1 ⟨rfl, rfl⟩
        generalize q % 72057594037927936 = a at *
        generalize q / 72057594037927936 = t at *
        go_wp2
        go_loopw [11] (fun i wr => ∃ m : Nat, (m : Int) ≤ n ∧ i = .int .i64 (m : Int) ∧ Hid (R.access q n = Ref.accFrom R.tag t a (n.toNat - m) m) ∧ Below w.heap.size w wr) (fun i _ => (n - intOf i).toNat)
        case atStart => exact ⟨0, by omega, rfl, HA.out, Below.refl _ _⟩
        case round =>
          obtain ⟨m, hm, rfl, hA, hb⟩ := hrel
          have HRr := hide2 (HR.out.below hb)
          by_cases hlt : (m : Int) < n
          · have hst : Hid (R.access q n = if R.tag (a + m) = -1 then (6, a + (m : Int)) else if R.tag (a + m) = 15 ∨ R.tag (a + m) ≠ t then (7, a + (m : Int)) else Ref.accFrom R.tag t a (n.toNat - (m + 1)) (m + 1)) := by
              show _ = _
              rw [hA.out, show n.toNat - m = (n.toNat - (m + 1)) + 1 by omega]
              rfl
            have HTG : Hid (Cf.tag R.st R.cls R.log (a + m) = R.tag (a + m)) := rfl
            have m0 : (0 : Int) ≤ (m : Int) := by omega
            clear hA HA
            generalize R.tag (a + m) = tg at *
            by_cases h1 : tg = -1
            · have HF : Hid (R.access q n = (6, a + (m : Int))) := hst.out.trans (if_pos h1)
              have hb1 : (tg == -1) = true := by simp [h1]
              clear hst h1
              go_wp2_with (go_at_call 17; refine (rtag_any p vc vl vm R (a + m) wr HRr.out HO.out).mono ?_; rw [HTG.out]; rintro e2 w2 ⟨rfl, hb2⟩)
              go_ret2
              exact ⟨by rw [HF.out]; rfl, hb.trans (hb2.mono hb.size)⟩
            · have hb1 : (tg == -1) = false := by rw [beq_eq_false_iff_ne]; exact h1
              by_cases h2 : tg = 15 ∨ tg ≠ t
              · have HF : Hid (R.access q n = (7, a + (m : Int))) := hst.out.trans ((if_neg h1).trans (if_pos h2))
                clear hst h1
                by_cases h3 : tg = 15
                · have hb3 : (tg == 15) = true := by simp [h3]
                  clear h2 h3
                  go_wp2_with (go_at_call 17; refine (rtag_any p vc vl vm R (a + m) wr HRr.out HO.out).mono ?_; rw [HTG.out]; rintro e2 w2 ⟨rfl, hb2⟩)
                  go_ret2
                  exact ⟨by rw [HF.out]; rfl, hb.trans (hb2.mono hb.size)⟩
                · have hb3 : (tg == 15) = false := by rw [beq_eq_false_iff_ne]; exact h3
                  have hb4 : (tg != t) = true := by simp; omega
                  clear h2 h3
                  go_wp2_with (go_at_call 17; refine (rtag_any p vc vl vm R (a + m) wr HRr.out HO.out).mono ?_; rw [HTG.out]; rintro e2 w2 ⟨rfl, hb2⟩)
                  go_ret2
                  exact ⟨by rw [HF.out]; rfl, hb.trans (hb2.mono hb.size)⟩
              · have HF : Hid (R.access q n = Ref.accFrom R.tag t a (n.toNat - (m + 1)) (m + 1)) := hst.out.trans ((if_neg h1).trans (if_neg h2))
                have hb3 : (tg == 15) = false := by rw [beq_eq_false_iff_ne]; omega
                have hb4 : (tg != t) = false := by simp; omega
                clear hst h1 h2
                go_wp2_with (go_at_call 17; refine (rtag_any p vc vl vm R (a + m) wr HRr.out HO.out).mono ?_; rw [HTG.out]; rintro e2 w2 ⟨rfl, hb2⟩)
                go_roundw
                case rel => exact ⟨m + 1, by omega, by go_num, HF.out, hb.trans (hb2.mono hb.size)⟩
                case measure => simp [intOf]; omega
          · have HF : Hid (R.access q n = (0, 0)) := by
              show _ = _
              rw [hA.out, show n.toNat - m = 0 by omega]
              rfl
            clear hA HA
            go_wp2
            go_ret2
            exact ⟨by rw [HF.out]; rfl, hb⟩

end Go.Proofs.Ytjikemhmnkckcaa
