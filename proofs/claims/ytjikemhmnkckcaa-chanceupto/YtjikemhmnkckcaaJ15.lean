import Derived.Test.YtjikemhmnkckcaaJ14
import Derived.Test.YtjikemhmnkckcaaJ7
import Derived.Test.YtjikemhmnkckcaaJ6
namespace Go.Proofs.Ytjikemhmnkckcaa
open Go.RowKit

theorem tame_iff (p : Int) : Ref.tameB p = true ↔ 0 ≤ p ∧ p / 72057594037927936 ≤ 15 ∧ p % 72057594037927936 ≤ 65535 := by
  show ((decide (0 ≤ p) && decide (p / 72057594037927936 ≤ 15)) && decide (p % 72057594037927936 ≤ 65535)) = true ↔ _
  rw [Bool.and_eq_true, Bool.and_eq_true, decide_eq_true_iff, decide_eq_true_iff, decide_eq_true_iff, and_assoc]
theorem tame_not {p : Int} (h : Ref.tameB p = false) : p < 0 ∨ 15 < p / 72057594037927936 ∨ 65535 < p % 72057594037927936 := by
  have h2 : ¬ (0 ≤ p ∧ p / 72057594037927936 ≤ 15 ∧ p % 72057594037927936 ≤ 65535) := by rw [← tame_iff, h]; decide
  omega

set_option maxRecDepth 100000 in
set_option maxHeartbeats 800000 in
theorem tame_no (p : Int) (w : World) (_p1 : p ≤ 9223372036854775807) (ht : Ref.tameB p = false) :
    Calls Try.prog 117 #[.int .i64 p] w fun e w' => e = .returned (.tuple #[.int .i64 0, .int .i64 0, .bool false]) ∧ w = w' := by
  have hno := tame_not ht
  clear ht
  by_cases h0 : p < 0
  · go_enter Try.func117, Try.ntmps117
    go_wp2
    all_goals
      go_ret3
      exact ⟨rfl, rfl⟩
  · have h0' : 0 ≤ p := by omega
    by_cases h1 : 15 < p / 72057594037927936
    · go_enter Try.func117, Try.ntmps117
      go_wp2
      all_goals
        go_ret3
        exact ⟨rfl, rfl⟩
    · have h2 : 65535 < p % 72057594037927936 := by omega
      go_enter Try.func117, Try.ntmps117
      go_wp2
      all_goals
        go_ret3
        exact ⟨rfl, rfl⟩

set_option maxRecDepth 100000 in
set_option maxHeartbeats 800000 in
theorem tame_yes (p : Int) (w : World) (_p1 : p ≤ 9223372036854775807) (ht : Ref.tameB p = true) :
    Calls Try.prog 117 #[.int .i64 p] w fun e w' => e = .returned (.tuple #[.int .i64 (p / 72057594037927936), .int .i64 (p % 72057594037927936), .bool true]) ∧ w = w' := by
  obtain ⟨y0, y1, y2⟩ := (tame_iff p).1 ht
  clear ht
  go_enter Try.func117, Try.ntmps117
  go_wp2
  all_goals
    go_ret3
    exact ⟨rfl, rfl⟩

theorem ret3_ints {a b c d e f : Int} (h : a = d) (h' : b = e) (h'' : c = f) : Ending.returned (.tuple #[.int .i64 a, .int .i64 b, .int .i64 c]) = .returned (.tuple #[.int .i64 d, .int .i64 e, .int .i64 f]) := by rw [h, h', h'']

set_option maxRecDepth 100000 in
set_option maxHeartbeats 3200000 in
theorem rblock_any (p : Nat) (vc vl vm : Value) (R : RSt) (q : Int) (w : World) (h : RRep w p vc vl vm R) (ho : ROk R) (q1 : q ≤ 9223372036854775807) :
    Calls Try.prog 120 #[.pointer (some ⟨p, 0, none⟩), .int .i64 q] w fun e w' => e = .returned (.tuple #[.int .i64 (Ref.block R.st R.cls R.log q).1, .int .i64 (Ref.block R.st R.cls R.log q).2.1, .int .i64 (Ref.block R.st R.cls R.log q).2.2]) ∧ Below w.heap.size w w' := by
  cases ht : Ref.tameB q
  · have hbl : Hid (Ref.block R.st R.cls R.log q = (0, 0, 5)) := by show _ = _; unfold Ref.block; rw [ht]; rfl
    clear h ho
    go_enter Try.func120, Try.ntmps120
    go_wp2_with (go_at_call 117; refine (tame_no _ _ q1 ht).mono ?_; rintro e1 w1 ⟨rfl, rfl⟩)
    go_ret3
    exact ⟨by rw [hbl.out]; rfl, Below.refl _ _⟩
  · have hbl : Hid (Ref.block R.st R.cls R.log q = Ref.blockFrom R.st R.cls R.log (q % 72057594037927936) (q / 72057594037927936) R.cls.length 0) := by show _ = _; unfold Ref.block; rw [ht]; rfl
    have HTM : Hid (Ref.tameB q = true) := ht
    have c0 := h.blk.cell (j := 0) rfl
    have c1 := h.blk.cell (j := 1) rfl
    have c2 := h.blk.cell (j := 2) rfl
    have hp := h.blk.lt
    have HR : Hid (RRep w p vc vl vm R) := h
    obtain ⟨a, cap, rfl, hcr⟩ := CRow.of_row h.cls
    obtain ⟨g, off, rfl, hgl, hcell⟩ := hcr.cells ho.conf.n0
    have n1 := ho.conf.n1
    have HO : Hid (ROk R) := ho
    have HCR : Hid (CRow w (some ⟨g, off, none⟩) cap R.cls) := hcr
    have HC : Hid (∀ i, i < R.cls.length → w.cell? ⟨g, off + i * 2, none⟩ = some (.int .i64 (Cf.gr R.cls i)) ∧ w.cell? ⟨g, off + i * 2 + 1, none⟩ = some (.int .i64 (Cf.sl R.cls i))) := hcell
    clear h ho hcr hcell ht
    go_enter Try.func120, Try.ntmps120
    go_wp2_with (go_at_call 117; refine (tame_yes _ _ q1 HTM.out).mono ?_; rintro e1 w1 ⟨rfl, hw1⟩; subst hw1)
    generalize hA : q % 72057594037927936 = A at *
    generalize hT : q / 72057594037927936 = T at *
    clear hA hT
    go_loopw [10] (fun i wr => ∃ m f : Nat, m + f = R.cls.length ∧ i = .int .i64 (m : Int) ∧ Hid (Ref.block R.st R.cls R.log q = Ref.blockFrom R.st R.cls R.log A T f m) ∧ Below w.heap.size w wr) (fun i _ => R.cls.length - (intOf i).toNat)
    case atStart => exact ⟨0, R.cls.length, by omega, rfl, hbl, Below.refl _ _⟩
    case round =>
      obtain ⟨m, f, hm, rfl, hs, hb⟩ := hrel
      have c2' := (hb.cell (p := ⟨p, 2, none⟩) hp).trans c2
      cases f with
      | zero =>
        have hm' : ¬ (m : Int) < R.cls.length := by omega
        clear hm
        go_wp2
        go_ret3
        exact ⟨by rw [hs.out]; rfl, hb⟩
      | succ f =>
        have hlt : m < R.cls.length := by omega
        have HM : Hid (m + (f + 1) = R.cls.length) := hm
        have hltI : (m : Int) < (R.cls.length : Int) := by omega
        have s0 := HO.out.conf.s0 m hlt
        have s1 := HO.out.conf.s1 m hlt
        clear hm
        go_wp2
        go_loopw [11] (fun i wr2 => ∃ n e : Nat, n + e = (Cf.sl R.cls m).toNat ∧ i = .int .i64 (n : Int) ∧ Hid (Ref.blockIn R.st R.cls R.log A T m = Ref.firstFrom (Ref.matchB R.st R.cls R.log A T m) e n) ∧ Below w.heap.size w wr2) (fun i _ => (Cf.sl R.cls m).toNat - (intOf i).toNat)
        case atStart => exact ⟨0, _, by omega, rfl, rfl, hb⟩
        case round =>
          obtain ⟨n, e, hne, rfl, hs2, hb2⟩ := hrel
          clear c2' hb
          have c0' := (hb2.cell (p := ⟨p, 0, none⟩) hp).trans c0
          have c1' := (hb2.cell (p := ⟨p, 1, none⟩) hp).trans c1
          have c2' := (hb2.cell (p := ⟨p, 2, none⟩) hp).trans c2
          have d1' := (hb2.cell (p := ⟨g, off + m * 2 + 1, none⟩) hgl).trans (HC.out m hlt).2
          cases e with
          | zero =>
            have hn' : ¬ (n : Int) < Cf.sl R.cls m := by omega
            have hsl : Hid (Ref.blockFrom R.st R.cls R.log A T (f + 1) m = Ref.blockFrom R.st R.cls R.log A T f (m + 1)) := by
              show (if 0 ≤ Ref.blockIn R.st R.cls R.log A T m then _ else _) = _
              rw [if_neg (by rw [hs2.out]; simp [Ref.firstFrom])]
            clear hne
            go_wp2
            go_roundw
            case rel => exact ⟨m + 1, f, by have := HM.out; omega, by go_num, hs.out.trans hsl.out, hb2⟩
            case measure => simp [intOf]; omega
          | succ e =>
            have hn' : (n : Int) < Cf.sl R.cls m := by omega
            have HN : Hid (n + (e + 1) = (Cf.sl R.cls m).toNat) := hne
            have hst : Hid (Ref.firstFrom (Ref.matchB R.st R.cls R.log A T m) (e + 1) n = if Ref.matchB R.st R.cls R.log A T m n then (n : Int) else Ref.firstFrom (Ref.matchB R.st R.cls R.log A T m) e (n + 1)) := rfl
            have hmt : Hid (Ref.matchB R.st R.cls R.log A T m n = !(Cf.begin_ R.st R.cls m n != A || Ref.last R.log m n != T || Ref.state R.log m n == 2)) := rfl
            clear hne
            cases x1 : (Cf.begin_ R.st R.cls m n != A)
            · cases x2 : (Ref.last R.log m n != T)
              · cases x3 : (Ref.state R.log m n == 2)
                · cases x4 : (Ref.state R.log m n == 4)
                  · skip
                    have hfd : Hid (Ref.block R.st R.cls R.log q = ((m : Int), (n : Int), 0)) := by
                      have e1 : Ref.blockIn R.st R.cls R.log A T m = n := by rw [hs2.out, hst.out, if_pos (by rw [hmt.out, x1, x2, x3]; rfl)]
                      show _ = _
                      rw [hs.out]
                      show (if 0 ≤ Ref.blockIn R.st R.cls R.log A T m then _ else _) = _
                      rw [e1, if_pos (by omega), if_neg (by rw [beq_eq_false_iff_ne] at x4; exact x4)]
                    go_wp2_with (first
                      | (go_at_call 47; refine (begin_any R.st R.rest _ cap R.cls _ _ _ HO.out.conf (HCR.out.below hb2) (by omega) (by omega) (by omega) (by omega)).mono ?_; rw [Int.toNat_natCast]; rintro e1 w3 ⟨rfl, hb3'⟩; have hb3 := hb2.trans (hb3'.mono hb2.size); clear hb3')
                      | (go_at_call 126; refine (last_any p _ vl vm R _ _ _ (HR.out.below hb3)).mono ?_; rintro e1 w4 ⟨rfl, hb4'⟩; have hb4 := hb3.trans (hb4'.mono hb3.size); clear hb4')
                      | (go_at_call 45; refine (state_any p _ vl vm R _ _ _ (HR.out.below hb4)).mono ?_; rintro e1 w5 ⟨rfl, hb5'⟩; have hb5 := hb4.trans (hb5'.mono hb4.size); clear hb5'))
                    go_ret3
                    exact ⟨by rw [hfd.out]; rfl, hb5⟩
                  · skip
                    have hfd : Hid (Ref.block R.st R.cls R.log q = (0, 0, 9)) := by
                      have e1 : Ref.blockIn R.st R.cls R.log A T m = n := by rw [hs2.out, hst.out, if_pos (by rw [hmt.out, x1, x2, x3]; rfl)]
                      show _ = _
                      rw [hs.out]
                      show (if 0 ≤ Ref.blockIn R.st R.cls R.log A T m then _ else _) = _
                      rw [e1, if_pos (by omega), if_pos (by simpa using x4)]
                    go_wp2_with (first
                      | (go_at_call 47; refine (begin_any R.st R.rest _ cap R.cls _ _ _ HO.out.conf (HCR.out.below hb2) (by omega) (by omega) (by omega) (by omega)).mono ?_; rw [Int.toNat_natCast]; rintro e1 w3 ⟨rfl, hb3'⟩; have hb3 := hb2.trans (hb3'.mono hb2.size); clear hb3')
                      | (go_at_call 126; refine (last_any p _ vl vm R _ _ _ (HR.out.below hb3)).mono ?_; rintro e1 w4 ⟨rfl, hb4'⟩; have hb4 := hb3.trans (hb4'.mono hb3.size); clear hb4')
                      | (go_at_call 45; refine (state_any p _ vl vm R _ _ _ (HR.out.below hb4)).mono ?_; rintro e1 w5 ⟨rfl, hb5'⟩; have hb5 := hb4.trans (hb5'.mono hb4.size); clear hb5'))
                    go_ret3
                    exact ⟨by rw [hfd.out]; rfl, hb5⟩
                · skip
                  have hsk : Hid (Ref.blockIn R.st R.cls R.log A T m = Ref.firstFrom (Ref.matchB R.st R.cls R.log A T m) e (n + 1)) := by
                    show _ = _
                    rw [hs2.out, hst.out, if_neg (by rw [hmt.out, x1, x2, x3]; simp)]
                  go_wp2_with (first
                    | (go_at_call 47; refine (begin_any R.st R.rest _ cap R.cls _ _ _ HO.out.conf (HCR.out.below hb2) (by omega) (by omega) (by omega) (by omega)).mono ?_; rw [Int.toNat_natCast]; rintro e1 w3 ⟨rfl, hb3'⟩; have hb3 := hb2.trans (hb3'.mono hb2.size); clear hb3')
                    | (go_at_call 126; refine (last_any p _ vl vm R _ _ _ (HR.out.below hb3)).mono ?_; rintro e1 w4 ⟨rfl, hb4'⟩; have hb4 := hb3.trans (hb4'.mono hb3.size); clear hb4')
                    | (go_at_call 45; refine (state_any p _ vl vm R _ _ _ (HR.out.below hb4)).mono ?_; rintro e1 w5 ⟨rfl, hb5'⟩; have hb5 := hb4.trans (hb5'.mono hb4.size); clear hb5'))
                  go_roundw
                  case rel => exact ⟨n + 1, e, by have := HN.out; omega, by go_num, hsk, hb5⟩
                  case measure => simp [intOf]; omega
              · skip
                have hsk : Hid (Ref.blockIn R.st R.cls R.log A T m = Ref.firstFrom (Ref.matchB R.st R.cls R.log A T m) e (n + 1)) := by
                  show _ = _
                  rw [hs2.out, hst.out, if_neg (by rw [hmt.out, x1, x2]; simp)]
                go_wp2_with (first
                  | (go_at_call 47; refine (begin_any R.st R.rest _ cap R.cls _ _ _ HO.out.conf (HCR.out.below hb2) (by omega) (by omega) (by omega) (by omega)).mono ?_; rw [Int.toNat_natCast]; rintro e1 w3 ⟨rfl, hb3'⟩; have hb3 := hb2.trans (hb3'.mono hb2.size); clear hb3')
                  | (go_at_call 126; refine (last_any p _ vl vm R _ _ _ (HR.out.below hb3)).mono ?_; rintro e1 w4 ⟨rfl, hb4'⟩; have hb4 := hb3.trans (hb4'.mono hb3.size); clear hb4')
                  | (go_at_call 45; refine (state_any p _ vl vm R _ _ _ (HR.out.below hb4)).mono ?_; rintro e1 w5 ⟨rfl, hb5'⟩; have hb5 := hb4.trans (hb5'.mono hb4.size); clear hb5'))
                go_roundw
                case rel => exact ⟨n + 1, e, by have := HN.out; omega, by go_num, hsk, hb5⟩
                case measure => simp [intOf]; omega
            · skip
              have hsk : Hid (Ref.blockIn R.st R.cls R.log A T m = Ref.firstFrom (Ref.matchB R.st R.cls R.log A T m) e (n + 1)) := by
                show _ = _
                rw [hs2.out, hst.out, if_neg (by rw [hmt.out, x1]; simp)]
              go_wp2_with (first
                | (go_at_call 47; refine (begin_any R.st R.rest _ cap R.cls _ _ _ HO.out.conf (HCR.out.below hb2) (by omega) (by omega) (by omega) (by omega)).mono ?_; rw [Int.toNat_natCast]; rintro e1 w3 ⟨rfl, hb3'⟩; have hb3 := hb2.trans (hb3'.mono hb2.size); clear hb3')
                | (go_at_call 126; refine (last_any p _ vl vm R _ _ _ (HR.out.below hb3)).mono ?_; rintro e1 w4 ⟨rfl, hb4'⟩; have hb4 := hb3.trans (hb4'.mono hb3.size); clear hb4')
                | (go_at_call 45; refine (state_any p _ vl vm R _ _ _ (HR.out.below hb4)).mono ?_; rintro e1 w5 ⟨rfl, hb5'⟩; have hb5 := hb4.trans (hb5'.mono hb4.size); clear hb5'))
              go_roundw
              case rel => exact ⟨n + 1, e, by have := HN.out; omega, by go_num, hsk, hb5⟩
              case measure => simp [intOf]; omega
end Go.Proofs.Ytjikemhmnkckcaa
/- The program's slot.had. -/
namespace Go.Proofs.Ytjikemhmnkckcaa
open Go.RowKit

/-- had: is the tag the slot's last? -/
def ghad (x : GSlot) (t : Int) : Bool := x.state != 2 && x.tag == t
def slotV (x : GSlot) : Value := .agg #[.int .i64 x.state, .int .i64 x.tag, .int .i64 x.bytes, .int .i64 x.rest, .int .i64 x.alloc, .int .i64 x.gone]
set_option maxRecDepth 100000 in
theorem had_any (x : GSlot) (t : Int) (w : World) :
    Calls Try.prog 100 #[slotV x, .int .i64 t] w fun e w' => e = .returned (.bool (ghad x t)) ∧ Below w.heap.size w w' := by
  unfold slotV
  have HG : Hid (ghad x t = (x.state != 2 && x.tag == t)) := rfl
  cases z1 : (x.state != 2)
  · have HF : Hid (ghad x t = false) := by show _ = _; rw [HG.out, z1]; rfl
    clear HG
    go_enter Try.func100, Try.ntmps100
    go_wp2
    go_ret
    exact ⟨by rw [HF.out]; rfl, (Below.refl _ _).alloc (Nat.le_refl _) _⟩
  · have HF : Hid (ghad x t = (x.tag == t)) := by show _ = _; rw [HG.out, z1]; rfl
    clear HG
    go_enter Try.func100, Try.ntmps100
    go_wp2
    go_ret
    exact ⟨by rw [HF.out]; rfl, (Below.refl _ _).alloc (Nat.le_refl _) _⟩

end Go.Proofs.Ytjikemhmnkckcaa
