import Derived.Test.YtjikemhmnkckcaaJ12
import Derived.Test.YtjikemhmnkckcaaJ18
/- The statement's own book: pick, begin, spot, class, whole. -/
namespace Go.Proofs.Ytjikemhmnkckcaa
open Go.RowKit

def kpick (c n : Int) : Int := (if c < 0 then -(c + 1) else c) % n
theorem kpick_bd (c n : Int) (hn : 0 < n) : 0 ≤ kpick c n ∧ kpick c n < n := by
  unfold kpick
  exact ⟨Int.emod_nonneg _ (by omega), Int.emod_lt_of_pos _ hn⟩

set_option maxRecDepth 100000 in
set_option maxHeartbeats 800000 in
theorem kpick_any (c n : Int) (w : World) (hn : 0 < n) (c0 : -9223372036854775808 ≤ c) (c1 : c ≤ 9223372036854775807) :
    Calls Try.prog 28 #[.int .i64 c, .int .i64 n] w fun e w' => e = .returned (.int .i64 (kpick c n)) ∧ w = w' := by
  by_cases h : c < 0
  · have HF : Hid (kpick c n = (-(c + 1)) % n) := by show _ = _; unfold kpick; rw [if_pos h]
    have hx : 0 ≤ -(c + 1) := by omega
    go_enter Try.func28, Try.ntmps28
    go_wp2
    go_ret
    exact ⟨ret_int (by rw [HF.out, ← Int.neg_tmod, Int.tmod_eq_emod_of_nonneg hx]), rfl⟩
  · have HF : Hid (kpick c n = c % n) := by show _ = _; unfold kpick; rw [if_neg h]
    have hx : 0 ≤ c := by omega
    go_enter Try.func28, Try.ntmps28
    go_wp2
    go_ret
    exact ⟨ret_int (by rw [HF.out]), rfl⟩

set_option maxRecDepth 100000 in
set_option maxHeartbeats 1600000 in
theorem kbegin_any (st rest : Int) (a : Option Addr) (cap : Nat) (cls : List (Int × Int)) (k s : Int) (w : World) (hv : Cf.Valid st rest cls) (h : CRow w a cap cls) (k0 : 0 ≤ k) (k1 : k < cls.length) (s0 : 0 ≤ s) (s1 : s ≤ 16) :
    Calls Try.prog 66 #[.agg #[.int .i64 st, .int .i64 rest, .slice a cls.length cap], .int .i64 k, .int .i64 s] w fun e w' => e = .returned (.int .i64 (Cf.begin_ st cls k.toNat s)) ∧ Below w.heap.size w w' := by
  obtain ⟨k, rfl⟩ := Int.eq_ofNat_of_zero_le k0
  rw [Int.toNat_natCast]
  obtain ⟨g, off, rfl, hgl, hcell⟩ := h.cells hv.n0
  have hlen := h.len
  have hcap := h.cap
  have b0 := hv.st0
  have b1 := hv.st1
  have n1 := hv.n1
  unfold maxLen at hcap
  have HV : Hid (Cf.Valid st rest cls) := hv
  have HC : Hid (∀ i, i < cls.length → w.cell? ⟨g, off + i * 2, none⟩ = some (.int .i64 (Cf.gr cls i)) ∧ w.cell? ⟨g, off + i * 2 + 1, none⟩ = some (.int .i64 (Cf.sl cls i))) := hcell
  clear hv h hcell
  go_enter Try.func66, Try.ntmps66
  go_wp2
  go_loopw [7, 8] (fun x i wr => ∃ m : Nat, m ≤ k ∧ i = .int .i64 (m : Int) ∧ x = .int .i64 (Cf.gran st cls m) ∧ Below w.heap.size w wr ∧ wr.cell? ⟨w.heap.size, 2, none⟩ = some (.slice (some ⟨g, off, none⟩) cls.length cap)) (fun _ i _ => k - (intOf i).toNat)
  case atStart => exact ⟨0, by omega, rfl, by simp [Cf.gran]; omega, (Below.refl _ _).alloc (Nat.le_refl _) _, by simp⟩
  case round =>
    obtain ⟨m, hm, rfl, rfl, hb, cc⟩ := hrel
    have gb := Cf.gran_bd HV.out m (by omega)
    by_cases hlt : m < k
    · obtain ⟨d0, d1⟩ := HC.out m (by omega)
      have d0' := (hb.cell (p := ⟨g, off + m * 2, none⟩) hgl).trans d0
      have d1' := (hb.cell (p := ⟨g, off + m * 2 + 1, none⟩) hgl).trans d1
      have pb := Cf.prod_bd (by have := HV.out.s0 m (by omega); omega) (HV.out.s1 m (by omega)) (by have := HV.out.g0 m (by omega); omega) (HV.out.g1 m (by omega))
      rw [Int.mul_comm] at pb
      have hg : Hid (Cf.gran st cls (m + 1) = Cf.gran st cls m + Cf.sl cls m * Cf.gr cls m + 1) := rfl
      generalize Cf.gr cls m = x at *
      generalize Cf.sl cls m = y at *
      clear d0 d1
      go_wp2
      go_quiet (fail)
      go_wp2
      go_roundw
      case rel => exact ⟨m + 1, by omega, by go_num, by rw [hg.out, Int.mul_comm y x], below_drewN hb _, cc⟩
      case measure => simp [intOf]; omega
    · obtain rfl : m = k := by omega
      obtain ⟨d0, d1⟩ := HC.out m (by omega)
      have d0' := (hb.cell (p := ⟨g, off + m * 2, none⟩) hgl).trans d0
      have pb := Cf.prod_bd s0 s1 (by have := HV.out.g0 m (by omega); omega) (HV.out.g1 m (by omega))
      have hbe : Hid (Cf.begin_ st cls m s = 16 * (Cf.gran st cls m + s * Cf.gr cls m)) := rfl
      generalize Cf.gr cls m = x at *
      clear d0 d1
      go_wp2
      go_ret
      exact ⟨ret_int (by rw [hbe.out]), hb⟩


set_option maxRecDepth 100000 in
set_option maxHeartbeats 1600000 in
theorem kspot_any (st rest : Int) (a : Option Addr) (cap : Nat) (cls : List (Int × Int)) (addr : Int) (w : World) (hv : Cf.Valid st rest cls) (h : CRow w a cap cls) (a0 : 0 ≤ addr) (a1 : addr ≤ 1000000000000000000) :
    Calls Try.prog 65 #[.agg #[.int .i64 st, .int .i64 rest, .slice a cls.length cap], .int .i64 addr] w fun e w' => e = .returned (.tuple #[.int .i64 (Cf.slot st cls addr).1, .int .i64 (Cf.slot st cls addr).2]) ∧ Below w.heap.size w w' := by
  have HH := hide2 h
  obtain ⟨g, off, rfl, hgl, hcell⟩ := h.cells hv.n0
  have hlen := h.len
  have hcap := h.cap
  have n1 := hv.n1
  unfold maxLen at hcap
  have HV := hide2 hv
  have HC : Hid (∀ i, i < cls.length → w.cell? ⟨g, off + i * 2, none⟩ = some (.int .i64 (Cf.gr cls i)) ∧ w.cell? ⟨g, off + i * 2 + 1, none⟩ = some (.int .i64 (Cf.sl cls i))) := hcell
  have HEQ : Hid (Cf.slot st cls addr = if (Cf.cslotFrom st cls addr cls.length 0).1 < 0 then (-1, -1) else Cf.cslotFrom st cls addr cls.length 0) := Cf.cslot_eq hv addr cls.length 0 (by omega)
  clear hv h hcell
  go_enter Try.func65, Try.ntmps65
  go_wp2
  go_loopw [6] (fun i wr => ∃ m f : Nat, m + f = cls.length ∧ i = .int .i64 (m : Int) ∧ Hid (Cf.slot st cls addr = if (Cf.cslotFrom st cls addr f m).1 < 0 then (-1, -1) else Cf.cslotFrom st cls addr f m) ∧ Below w.heap.size w wr ∧ CBox wr w.heap.size st rest (some ⟨g, off, none⟩) cls.length cap) (fun i _ => cls.length - (intOf i).toNat)
  case atStart => exact ⟨0, cls.length, by omega, rfl, HEQ.out, (Below.refl _ _).alloc (Nat.le_refl _) _, CBox.alloc _ _ _ _ _ _ _⟩
  case round =>
    obtain ⟨m, f, hm, rfl, hs, hb, cc⟩ := hrel
    have k0 := cc.c0
    have k1 := cc.c1
    have k2 := cc.c2
    have hlt0 := cc.lt
    have HB := hide2 hb
    have HCC := hide2 cc
    clear cc hb HEQ
    cases f with
    | zero =>
      have hm' : ¬ (m : Int) < cls.length := by omega
      clear hm
      go_wp2
      go_ret2
      exact ⟨by rw [hs.out]; rfl, HB.out⟩
    | succ f =>
      have hlt : m < cls.length := by omega
      have HM := hide2 hm
      obtain ⟨d0, d1⟩ := HC.out m hlt
      have d0' := (HB.out.cell (p := ⟨g, off + m * 2, none⟩) hgl).trans d0
      have d1' := (HB.out.cell (p := ⟨g, off + m * 2 + 1, none⟩) hgl).trans d1
      have s0 := HV.out.s0 m hlt
      have s1 := HV.out.s1 m hlt
      have g0 := HV.out.g0 m hlt
      have g1 := HV.out.g1 m hlt
      have gb := Cf.gran_bd HV.out m (by omega)
      have HBE : Hid (Cf.begin_ st cls m 0 = 16 * Cf.gran st cls m) := by show _ = _; unfold Cf.begin_; omega
      have hst : Hid (Cf.cslotFrom st cls addr (f + 1) m = if Cf.hasB st cls addr m then ((m : Int), (addr - 16 * Cf.gran st cls m) / (16 * Cf.gr cls m)) else Cf.cslotFrom st cls addr f (m + 1)) := rfl
      have hhas : Hid (Cf.hasB st cls addr m = (decide (16 * Cf.gran st cls m ≤ addr) && decide (addr < 16 * Cf.gran st cls m + (Cf.sl cls m) * (16 * Cf.gr cls m)))) := rfl
      have hpr := Cf.prod_bd (by omega) s1 (by omega) g1
      have hcm : Cf.sl cls m * (16 * Cf.gr cls m) = 16 * Cf.gr cls m * Cf.sl cls m := Int.mul_comm _ _
      have hcm2 : 16 * Cf.gr cls m * Cf.sl cls m = 16 * (Cf.sl cls m * Cf.gr cls m) := by rw [Int.mul_assoc, Int.mul_comm (Cf.gr cls m)]
      have hprod0 : 0 ≤ 16 * Cf.gr cls m * Cf.sl cls m := by omega
      have hprod1 : 16 * Cf.gr cls m * Cf.sl cls m ≤ 2048 := by omega
      rw [hcm] at hhas
      have HMI : (m : Int) < (cls.length : Int) := by omega
      have hw0 : w.heap.size ≤ wr.heap.size := HB.out.size
      clear hm d0 d1 hcm hcm2 hpr
      go_wp2_with fail
      refine (kbegin_any st rest _ cap cls m 0 wr HV.out (HH.out.below HB.out) (by omega) (by omega) (by omega) (by omega)).mono ?_
      rw [Int.toNat_natCast, HBE.out]
      rintro e1 w1 ⟨rfl, hb1⟩
      have q2 := (hb1.cell (p := ⟨w.heap.size, 2, none⟩) hlt0).trans k2
      have q0 := (hb1.cell (p := ⟨g, off + m * 2, none⟩) (Nat.lt_of_lt_of_le hgl hw0)).trans d0'
      have q1 := (hb1.cell (p := ⟨g, off + m * 2 + 1, none⟩) (Nat.lt_of_lt_of_le hgl hw0)).trans d1'
      have HB1 := hide2 (HB.out.trans (hb1.mono HB.out.size))
      have HC1 := hide2 (HCC.out.below hb1 HCC.out.lt)
      clear d0' d1' k0 k1 k2 hb1
      generalize Cf.gran st cls m = x at *
      generalize Cf.gr cls m = y at *
      generalize Cf.sl cls m = z at *
      by_cases hi : 16 * x ≤ addr ∧ addr < 16 * x + 16 * y * z
      · obtain ⟨i1, i2⟩ := hi
        have hd0 : 0 ≤ (addr - 16 * x) / (16 * y) := Int.ediv_nonneg (by omega) (by omega)
        have hfin : Hid (Cf.slot st cls addr = ((m : Int), (addr - 16 * x) / (16 * y))) := by
          show _ = _
          rw [hs.out, hst.out, if_pos (show Cf.hasB st cls addr m = true by rw [hhas.out]; simp [i1, i2]), if_neg (by simp)]
        have hy : 0 < 16 * y := by omega
        clear hs hst hhas
        go_wp2
        go_quiet (fail)
        go_wp2
        go_ret2
        exact ⟨by rw [hfin.out]; rfl, below_drewN HB1.out _⟩
      · have hfin : Hid (Cf.slot st cls addr = if (Cf.cslotFrom st cls addr f (m + 1)).1 < 0 then (-1, -1) else Cf.cslotFrom st cls addr f (m + 1)) := by
          show _ = _
          rw [hs.out, hst.out, if_neg (show ¬ Cf.hasB st cls addr m = true by rw [hhas.out]; simpa using hi)]
        clear hs hst hhas
        by_cases i1 : 16 * x ≤ addr
        · have i2 : 16 * x + 16 * y * z ≤ addr := by omega
          clear hi
          go_wp2
          go_roundw
          case rel => exact ⟨m + 1, f, by have := HM.out; omega, by go_num, hfin, HB1.out, HC1.out⟩
          case measure => simp [intOf]; omega
        · clear hi
          go_wp2
          go_roundw
          case rel => exact ⟨m + 1, f, by have := HM.out; omega, by go_num, hfin, HB1.out, HC1.out⟩
          case measure => simp [intOf]; omega

set_option maxRecDepth 100000 in
set_option maxHeartbeats 1600000 in
theorem kclass_any (st rest : Int) (a : Option Addr) (cap : Nat) (cls : List (Int × Int)) (size : Int) (w : World) (hv : Cf.Valid st rest cls) (h : CRow w a cap cls) :
    Calls Try.prog 64 #[.agg #[.int .i64 st, .int .i64 rest, .slice a cls.length cap], .int .i64 size] w fun e w' => e = .returned (.int .i64 (gcls cls size)) ∧ Below w.heap.size w w' := by
  obtain ⟨g, off, rfl, hgl, hcell⟩ := h.cells hv.n0
  have hlen := h.len
  have hcap := h.cap
  have n1 := hv.n1
  have n0 := hv.n0
  unfold maxLen at hcap
  have HV := hide2 hv
  have HC : Hid (∀ i, i < cls.length → w.cell? ⟨g, off + i * 2, none⟩ = some (.int .i64 (Cf.gr cls i)) ∧ w.cell? ⟨g, off + i * 2 + 1, none⟩ = some (.int .i64 (Cf.sl cls i))) := hcell
  clear hv h hcell
  by_cases h1 : size < 1
  · have hres : Hid (gcls cls size = -1) := if_pos (.inl h1)
    have hs0 : ¬ (0 : Int) < size := by omega
    go_enter Try.func64, Try.ntmps64
    go_wp2
    go_loopw [5] (fun i wr => i = .int .i64 0 ∧ Below w.heap.size w wr ∧ wr.cell? ⟨w.heap.size, 2, none⟩ = some (.slice (some ⟨g, off, none⟩) cls.length cap)) (fun _ _ => 0)
    case atStart => exact ⟨rfl, (Below.refl _ _).alloc (Nat.le_refl _) _, by simp⟩
    case round =>
      obtain ⟨rfl, hb, k2⟩ := hrel
      have hl0 : (0 : Int) < (cls.length : Int) := by omega
      go_wp2
      go_ret
      exact ⟨ret_int hres.out.symm, hb⟩
  · have hres : Hid (gcls cls size = if Ref.cls_ cls size = cls.length then -1 else (Ref.cls_ cls size : Int)) := by
      show _ = _
      simp [gcls, h1]
    have hs0 : (0 : Int) < size := by omega
    go_enter Try.func64, Try.ntmps64
    go_wp2
    go_loopw [5] (fun i wr => ∃ m f : Nat, m + f = cls.length ∧ i = .int .i64 (m : Int) ∧ Hid (Ref.cls_ cls size = Ref.classFrom cls size f m) ∧ Below w.heap.size w wr ∧ wr.cell? ⟨w.heap.size, 2, none⟩ = some (.slice (some ⟨g, off, none⟩) cls.length cap)) (fun i _ => cls.length - (intOf i).toNat)
    case atStart => exact ⟨0, cls.length, by omega, rfl, rfl, (Below.refl _ _).alloc (Nat.le_refl _) _, by simp⟩
    case round =>
      obtain ⟨m, f, hm, rfl, hc, hb, k2⟩ := hrel
      cases f with
      | zero =>
        have hm3 : ¬ (m : Int) < (cls.length : Int) := by omega
        have hfin : Hid (gcls cls size = -1) := by
          show _ = _
          rw [hres.out, if_pos (by rw [hc.out]; show m = _; omega)]
        clear hm
        go_wp2
        go_ret
        exact ⟨ret_int hfin.out.symm, hb⟩
      | succ f =>
        have hlt : m < cls.length := by omega
        obtain ⟨d0, d1⟩ := HC.out m hlt
        have d0' := (hb.cell (p := ⟨g, off + m * 2, none⟩) hgl).trans d0
        have g0 := HV.out.g0 m hlt
        have g1 := HV.out.g1 m hlt
        have HM := hide2 hm
        have hst : Hid (Ref.classFrom cls size (f + 1) m = if 16 * Cf.gr cls m < size then Ref.classFrom cls size f (m + 1) else m) := rfl
        have hltI : (m : Int) < (cls.length : Int) := by omega
        clear hm d0 d1
        by_cases hq : 16 * Cf.gr cls m < size
        · have hfin : Hid (Ref.cls_ cls size = Ref.classFrom cls size f (m + 1)) := by show _ = _; rw [hc.out, hst.out, if_pos hq]
          clear hst hc
          generalize Cf.gr cls m = x at *
          go_wp2
          go_roundw
          case rel => exact ⟨m + 1, f, by have := HM.out; omega, by go_num, hfin, hb, k2⟩
          case measure => simp [intOf]; omega
        · have hfin : Hid (gcls cls size = (m : Int)) := by
            show _ = _
            have e : Ref.cls_ cls size = m := by rw [hc.out, hst.out, if_neg hq]
            rw [hres.out, e, if_neg (by omega)]
          clear hst hc
          generalize Cf.gr cls m = x at *
          go_wp2
          go_ret
          exact ⟨ret_int hfin.out.symm, hb⟩

set_option maxHeartbeats 800000 in
theorem kwhole_any (size : Int) (w : World) (h0 : 1 ≤ size) (h1 : size ≤ 128) :
    Calls Try.prog 31 #[.int .i64 size] w fun e w' => e = .returned (.int .i64 (16 * Ref.gsz size)) ∧ w = w' := by
  have hg : Hid (16 * Ref.gsz size = (size + 16 - 1) / 16 * 16) := by show _ = _; unfold Ref.gsz; omega
  go_enter Try.func31, Try.ntmps31
  go_wp2
  go_ret
  exact ⟨ret_int (by rw [hg.out]), rfl⟩
end Go.Proofs.Ytjikemhmnkckcaa
