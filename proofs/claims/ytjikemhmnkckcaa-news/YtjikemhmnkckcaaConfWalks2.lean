import Derived.Test.YtjikemhmnkckcaaConfWalks1
namespace Go.Proofs.Ytjikemhmnkckcaa
open Go.RowKit

theorem ret_ints {a b c d : Int} (h : a = c) (h' : b = d) : Ending.returned (.tuple #[.int .i64 a, .int .i64 b]) = .returned (.tuple #[.int .i64 c, .int .i64 d]) := by rw [h, h']

/-- the boxed configuration's cells -/
structure CBox (w : World) (b : Nat) (st rest : Int) (a : Option Addr) (n cap : Nat) : Prop where
  lt : b < w.heap.size
  c0 : w.cell? ⟨b, 0, none⟩ = some (.int .i64 st)
  c1 : w.cell? ⟨b, 1, none⟩ = some (.int .i64 rest)
  c2 : w.cell? ⟨b, 2, none⟩ = some (.slice a n cap)
theorem CBox.alloc (w : World) (st rest : Int) (a : Option Addr) (n cap : Nat) (t : TypeId) : CBox (w.alloc (.cells #[.int .i64 st, .int .i64 rest, .slice a n cap] t)) w.heap.size st rest a n cap :=
  ⟨by simp, by simp, by simp, by simp⟩
theorem CBox.below {w w' : World} {b : Nat} {st rest : Int} {a : Option Addr} {n cap : Nat} (h : CBox w b st rest a n cap) {B : Nat} (hb : Below B w w') (hB : b < B) : CBox w' b st rest a n cap :=
  ⟨Nat.lt_of_lt_of_le h.lt hb.size, (hb.cell (p := ⟨b, 0, none⟩) hB).trans h.c0, (hb.cell (p := ⟨b, 1, none⟩) hB).trans h.c1, (hb.cell (p := ⟨b, 2, none⟩) hB).trans h.c2⟩

set_option maxHeartbeats 1000000 in
theorem slot_any (st rest : Int) (a : Option Addr) (cap : Nat) (cls : List (Int × Int)) (addr : Int) (w : World) (hv : Cf.Valid st rest cls) (h : CRow w a cap cls) :
    Calls Try.prog 44 #[.agg #[.int .i64 st, .int .i64 rest, .slice a cls.length cap], .int .i64 addr] w fun e w' => e = .returned (.tuple #[.int .i64 (Cf.slot st cls addr).1, .int .i64 (Cf.slot st cls addr).2]) ∧ Below w.heap.size w w' := by
  have HH : Hid (CRow w a cap cls) := h
  obtain ⟨g, off, rfl, hgl, hcell⟩ := h.cells hv.n0
  have hlen := h.len
  have hcap := h.cap
  have b0 := hv.st0
  have b1 := hv.st1
  have n1 := hv.n1
  unfold maxLen at hcap
  have HV : Hid (Cf.Valid st rest cls) := hv
  have HC : Hid (∀ i, i < cls.length → w.cell? ⟨g, off + i * 2, none⟩ = some (.int .i64 (Cf.gr cls i)) ∧ w.cell? ⟨g, off + i * 2 + 1, none⟩ = some (.int .i64 (Cf.sl cls i))) := hcell
  clear hv h hcell
  go_enter Try.func44, Try.ntmps44
  go_wp2
  go_loopw [6] (fun i wr => ∃ m f : Nat, m + f = cls.length ∧ i = .int .i64 (m : Int) ∧ Hid (Cf.slot st cls addr = Cf.slotFrom st cls addr f m) ∧ Below w.heap.size w wr ∧ CBox wr w.heap.size st rest (some ⟨g, off, none⟩) cls.length cap) (fun i _ => cls.length - (intOf i).toNat)
  case atStart => exact ⟨0, cls.length, by omega, rfl, rfl, (Below.refl _ _).alloc (Nat.le_refl _) _, CBox.alloc _ _ _ _ _ _ _⟩
  case round =>
    obtain ⟨m, f, hm, rfl, hs, hb, cc⟩ := hrel
    have cc2 := cc.c2
    cases f with
    | zero =>
      have hm' : ¬ (m : Int) < cls.length := by omega
      clear hm
      go_wp2
      go_ret2
      exact ⟨by rw [hs.out]; rfl, hb⟩
    | succ f =>
      have hlt : m < cls.length := by omega
      have HM : Hid (m + (f + 1) = cls.length) := hm
      clear hm
      go_wp2
      go_loopw [7] (fun i wr2 => ∃ n e : Nat, n + e = (Cf.sl cls m).toNat ∧ i = .int .i64 (n : Int) ∧ Hid (Cf.slotIn st cls addr m = Ref.firstFrom (Cf.inS st cls addr m) e n) ∧ Below w.heap.size w wr2 ∧ CBox wr2 w.heap.size st rest (some ⟨g, off, none⟩) cls.length cap) (fun i _ => (Cf.sl cls m).toNat - (intOf i).toNat)
      case atStart => exact ⟨0, (Cf.sl cls m).toNat, by omega, rfl, rfl, hb, cc⟩
      case round =>
        obtain ⟨n, e, hne, rfl, hs2, hb2, ccc⟩ := hrel
        clear cc cc2 hb
        obtain ⟨k0, k1, k2⟩ := (⟨ccc.c0, ccc.c1, ccc.c2⟩ : _ ∧ _ ∧ _)
        obtain ⟨d0, d1⟩ := HC.out m hlt
        have d0' := (hb2.cell (p := ⟨g, off + m * 2, none⟩) hgl).trans d0
        have d1' := (hb2.cell (p := ⟨g, off + m * 2 + 1, none⟩) hgl).trans d1
        have s0 := HV.out.s0 m hlt
        have s1 := HV.out.s1 m hlt
        have g0 := HV.out.g0 m hlt
        have g1 := HV.out.g1 m hlt
        clear d0 d1
        cases e with
        | zero =>
          have hn' : ¬ (n : Int) < Cf.sl cls m := by omega
          have hsl : Hid (Cf.slotFrom st cls addr (f + 1) m = Cf.slotFrom st cls addr f (m + 1)) := by
            show (if 0 ≤ Cf.slotIn st cls addr m then _ else _) = _
            rw [if_neg (by rw [hs2.out]; simp [Ref.firstFrom])]
          clear hne
          generalize Cf.sl cls m = y at *
          generalize Cf.gr cls m = x at *
          go_wp2
          go_roundw
          case rel => exact ⟨m + 1, f, by have := HM.out; omega, by go_num, hs.out.trans hsl.out, hb2, ccc⟩
          case measure => simp [intOf]; omega
        | succ e =>
          have hn' : (n : Int) < Cf.sl cls m := by omega
          have HN : Hid (n + (e + 1) = (Cf.sl cls m).toNat) := hne
          have bb := Cf.begin_bd HV.out m hlt n (by omega) (by omega)
          have hst : Hid (Ref.firstFrom (Cf.inS st cls addr m) (e + 1) n = if Cf.inS st cls addr m n then (n : Int) else Ref.firstFrom (Cf.inS st cls addr m) e (n + 1)) := rfl
          have hin : Hid (Cf.inS st cls addr m n = (decide (Cf.begin_ st cls m n ≤ addr) && decide (addr < Cf.begin_ st cls m n + 16 * Cf.gr cls m))) := rfl
          clear hne
          by_cases hi : Cf.begin_ st cls m n ≤ addr ∧ addr < Cf.begin_ st cls m n + 16 * Cf.gr cls m
          · have hfin : Hid (Cf.slot st cls addr = ((m : Int), (n : Int))) := by
              have e1 : Cf.slotIn st cls addr m = n := by rw [hs2.out, hst.out, if_pos (by rw [hin.out]; simp [hi])]
              show _ = _
              rw [hs.out]
              show (if 0 ≤ Cf.slotIn st cls addr m then _ else _) = _
              rw [e1, if_pos (by omega)]
            obtain ⟨i1, i2⟩ := hi
            go_wp2_with (go_at_call 47; refine (begin_any st rest _ cap cls _ _ _ HV.out (HH.out.below hb2) (by omega) (by omega) (by omega) (by omega)).mono ?_; rw [Int.toNat_natCast]; rintro e1 w1 ⟨rfl, hb3⟩; have q2 := (hb3.cell (p := ⟨w.heap.size, 2, none⟩) ccc.lt).trans k2; have q0 := (hb3.cell (p := ⟨g, off + m * 2, none⟩) (Nat.lt_of_lt_of_le hgl hb2.size)).trans d0')
            go_ret2
            exact ⟨by rw [hfin.out]; rfl, hb2.trans (hb3.mono hb2.size)⟩
          · have hfin : Hid (Cf.slotIn st cls addr m = Ref.firstFrom (Cf.inS st cls addr m) e (n + 1)) := by
              show _ = _
              rw [hs2.out, hst.out, if_neg (by rw [hin.out]; simpa using hi)]
            go_wp2_with (go_at_call 47; refine (begin_any st rest _ cap cls _ _ _ HV.out (HH.out.below hb2) (by omega) (by omega) (by omega) (by omega)).mono ?_; rw [Int.toNat_natCast]; rintro e1 w1 ⟨rfl, hb3⟩; have q2 := (hb3.cell (p := ⟨w.heap.size, 2, none⟩) ccc.lt).trans k2; have q0 := (hb3.cell (p := ⟨g, off + m * 2, none⟩) (Nat.lt_of_lt_of_le hgl hb2.size)).trans d0')
            all_goals
              go_roundw
              case rel => exact ⟨n + 1, e, by have := HN.out; omega, by go_num, hfin, hb2.trans (hb3.mono hb2.size), ccc.below hb3 ccc.lt⟩
              case measure => simp [intOf]; omega
end Go.Proofs.Ytjikemhmnkckcaa
