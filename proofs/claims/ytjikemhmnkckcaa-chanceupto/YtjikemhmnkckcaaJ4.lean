import Derived.Test.YtjikemhmnkckcaaJ1
import Derived.Test.YtjikemhmnkckcaaJ3
import Derived.Test.YtjikemhmnkckcaaJ2
namespace Go.Proofs.Ytjikemhmnkckcaa
open Go.RowKit

set_option maxHeartbeats 400000 in
theorem given_any (p : Nat) (vc vl vm : Value) (R : RSt) (k s : Int) (w : World) (h : RRep w p vc vl vm R) :
    Calls Try.prog 46 #[.pointer (some ⟨p, 0, none⟩), .int .i64 k, .int .i64 s] w fun e w' => e = .returned (.int .i64 (Ref.given R.log k s)) ∧ Below w.heap.size w w' := by
  have c3 := h.blk.cell (j := 3) rfl
  have hp := h.blk.lt
  obtain ⟨a, cap, rfl, hcap, hmax, hrow⟩ := row_open h.log
  unfold maxLen at hmax
  have HR : Hid (0 < R.log.length → ∃ g, a = some ⟨g, 0, none⟩ ∧ g < w.heap.size ∧ (∀ j u, (R.log.flatMap evCells)[j]? = some u → w.cell? ⟨g, j, none⟩ = some u) ∧ (∀ j, w.frozen? ⟨g, j, none⟩ = false)) := hrow
  clear hrow h
  go_enter Try.func46, Try.ntmps46
  go_wp2
  go_loopw [7] (fun i wr => ∃ m : Nat, m ≤ R.log.length ∧ i = .int .i64 ((m : Int) - 1) ∧ Hid (Ref.given R.log k s = Ref.givenTo R.log k s m) ∧ Below w.heap.size w wr) (fun i _ => (intOf i + 1).toNat)
  case atStart => exact ⟨_, Nat.le_refl _, rfl, rfl, Below.refl _ _⟩
  case round =>
    obtain ⟨m, hm, rfl, hg, hb⟩ := hrel
    cases m with
    | zero =>
      go_wp2
      go_ret
      exact ⟨ret_int hg.out.symm, hb⟩
    | succ i =>
      obtain ⟨g, rfl, hgl, hcell, hfr⟩ := HR.out (by omega)
      have e1 : ((i + 1 : Nat) : Int) - 1 = (i : Int) := by omega
      rw [e1]
      have hc : ∀ j u, (R.log.flatMap evCells)[j]? = some u → wr.cell? ⟨g, j, none⟩ = some u := fun j u hu => by rw [hb.cell (p := ⟨g, j, none⟩) hgl]; exact hcell j u hu
      obtain ⟨d0, d1, d2, d3, d4, d5⟩ := ev_cells hc i (by omega)
      have c3' : wr.cell? ⟨p, 3, none⟩ = some (.slice (some ⟨g, 0, none⟩) R.log.length cap) := by rw [hb.cell (p := ⟨p, 3, none⟩) hp]; exact c3
      have hst : Hid (Ref.givenTo R.log k s (i + 1) = if (R.log.getD i Ref.Ev.no).gives k s then (i : Int) else Ref.givenTo R.log k s i) := rfl
      generalize R.log.getD i Ref.Ev.no = ev at *
      clear hcell hfr hc
      clear HR c3 e1
      go_wp2
      case roundEnd => 
        go_roundw
        case rel => exact ⟨i, by omega, rfl, hg.out.trans (hst.out.trans (if_neg (by simp [Ref.Ev.gives, *]))), hb.alloc hb.size _⟩
        case measure => simp [intOf]
      case roundEnd => 
        go_roundw
        case rel => exact ⟨i, by omega, rfl, hg.out.trans (hst.out.trans (if_neg (by simp [Ref.Ev.gives, *]))), hb.alloc hb.size _⟩
        case measure => simp [intOf]
      case roundEnd => 
        go_roundw
        case rel => exact ⟨i, by omega, rfl, hg.out.trans (hst.out.trans (if_neg (by simp [Ref.Ev.gives, *]))), hb.alloc hb.size _⟩
        case measure => simp [intOf]
      go_ret
      exact ⟨ret_int (hg.out.trans (hst.out.trans (if_pos (by simp [Ref.Ev.gives, *])))).symm, hb.alloc hb.size _⟩

set_option maxHeartbeats 400000 in
theorem gone_any (p : Nat) (vc vl vm : Value) (R : RSt) (k s : Int) (w : World) (h : RRep w p vc vl vm R) :
    Calls Try.prog 80 #[.pointer (some ⟨p, 0, none⟩), .int .i64 k, .int .i64 s] w fun e w' => e = .returned (.int .i64 (Ref.gone R.log k s)) ∧ Below w.heap.size w w' := by
  have c3 := h.blk.cell (j := 3) rfl
  have hp := h.blk.lt
  have hh : Hid (RRep w p vc vl vm R) := h
  obtain ⟨a, cap, rfl, hcap, hmax, hrow⟩ := row_open h.log
  unfold maxLen at hmax
  have HR : Hid (0 < R.log.length → ∃ g, a = some ⟨g, 0, none⟩ ∧ g < w.heap.size ∧ (∀ j u, (R.log.flatMap evCells)[j]? = some u → w.cell? ⟨g, j, none⟩ = some u) ∧ (∀ j, w.frozen? ⟨g, j, none⟩ = false)) := hrow
  have g1 := Ref.given_lo R.log k s
  have g2 := Ref.given_hi R.log k s
  clear hrow h
  go_enter Try.func80, Try.ntmps80
  go_wp2_with (go_at_call 46; refine (given_any _ _ _ _ _ _ _ _ hh.out).mono ?_; rintro e w1 ⟨rfl, hb1⟩)
  have c3' : w1.cell? ⟨p, 3, none⟩ = some (.slice a R.log.length cap) := by rw [hb1.cell (p := ⟨p, 3, none⟩) hp]; exact c3
  go_loopw [8] (fun i wr => ∃ m f : Nat, m + f = R.log.length ∧ i = .int .i64 (m : Int) ∧ Hid (Ref.gone R.log k s = Ref.firstFrom (fun i => (R.log.getD i Ref.Ev.no).takes k s) f m) ∧ Below w.heap.size w wr) (fun i _ => R.log.length - (intOf i).toNat)
  case atStart => exact ⟨(Ref.given R.log k s + 1).toNat, R.log.length - (Ref.given R.log k s + 1).toNat, by omega, by rw [Int.toNat_of_nonneg (by omega)], rfl, hb1⟩
  case round =>
    obtain ⟨m, f, hm, rfl, hg, hb⟩ := hrel
    have c3' : wr.cell? ⟨p, 3, none⟩ = some (.slice a R.log.length cap) := by rw [hb.cell (p := ⟨p, 3, none⟩) hp]; exact c3
    cases f with
    | zero =>
      have hm' : ¬ (m : Int) < R.log.length := by omega
      clear hm
      go_wp2
      go_ret
      exact ⟨ret_int hg.out.symm, hb⟩
    | succ f =>
      have hlt : m < R.log.length := by omega
      obtain ⟨g, rfl, hgl, hcell, hfr⟩ := HR.out (by omega)
      have hc : ∀ j u, (R.log.flatMap evCells)[j]? = some u → wr.cell? ⟨g, j, none⟩ = some u := fun j u hu => by rw [hb.cell (p := ⟨g, j, none⟩) hgl]; exact hcell j u hu
      obtain ⟨d0, d1, d2, d3, d4, d5⟩ := ev_cells hc m (by omega)
      have hst : Hid (Ref.firstFrom (fun i => (R.log.getD i Ref.Ev.no).takes k s) (f + 1) m = if (R.log.getD m Ref.Ev.no).takes k s then (m : Int) else Ref.firstFrom (fun i => (R.log.getD i Ref.Ev.no).takes k s) f (m + 1)) := rfl
      have hm2 : Hid (m + (f + 1) = R.log.length) := hm
      generalize R.log.getD m Ref.Ev.no = ev at *
      clear hcell hfr hc HR c3 hm
      go_wp2
      case roundEnd => 
        go_roundw
        case rel => exact ⟨m + 1, f, by have := hm2.out; omega, by go_num, hg.out.trans (hst.out.trans (if_neg (by simp [Ref.Ev.takes, *]))), hb.alloc hb.size _⟩
        case measure => simp [intOf]; omega
      case roundEnd => 
        go_roundw
        case rel => exact ⟨m + 1, f, by have := hm2.out; omega, by go_num, hg.out.trans (hst.out.trans (if_neg (by simp [Ref.Ev.takes, *]))), hb.alloc hb.size _⟩
        case measure => simp [intOf]; omega
      case roundEnd => 
        go_roundw
        case rel => exact ⟨m + 1, f, by have := hm2.out; omega, by go_num, hg.out.trans (hst.out.trans (if_neg (by simp [Ref.Ev.takes, *]))), hb.alloc hb.size _⟩
        case measure => simp [intOf]; omega
      go_ret
      exact ⟨ret_int (hg.out.trans (hst.out.trans (if_pos (by simp [Ref.Ev.takes, *])))).symm, hb.alloc hb.size _⟩

end Go.Proofs.Ytjikemhmnkckcaa
namespace Go.Proofs.Ytjikemhmnkckcaa
open Go.RowKit

set_option maxHeartbeats 400000 in
theorem state_any (p : Nat) (vc vl vm : Value) (R : RSt) (k s : Int) (w : World) (h : RRep w p vc vl vm R) :
    Calls Try.prog 45 #[.pointer (some ⟨p, 0, none⟩), .int .i64 k, .int .i64 s] w fun e w' => e = .returned (.int .i64 (Ref.state R.log k s)) ∧ Below w.heap.size w w' := by
  have hh : Hid (RRep w p vc vl vm R) := h
  have hst : Hid (Ref.state R.log k s = if Ref.given R.log k s < 0 then 2 else if Ref.gone R.log k s < 0 then 3 else 4) := rfl
  clear h
  by_cases h1 : Ref.given R.log k s < 0
  · go_enter Try.func45, Try.ntmps45
    go_wp2_with (go_at_call 46; refine (given_any _ _ _ _ _ _ _ _ hh.out).mono ?_; rintro e w1 ⟨rfl, hb1⟩)
    go_ret
    exact ⟨ret_int (by rw [hst.out, if_pos h1]), hb1⟩
  · by_cases h2 : Ref.gone R.log k s < 0
    all_goals
      go_enter Try.func45, Try.ntmps45
      go_wp2_with (first | (go_at_call 46; refine (given_any _ _ _ _ _ _ _ _ hh.out).mono ?_; rintro e w1 ⟨rfl, hb1⟩) | (go_at_call 80; refine (gone_any _ _ _ _ _ _ _ _ (hh.out.below hb1)).mono ?_; rintro e w2 ⟨rfl, hb2⟩))
      go_ret
    · exact ⟨ret_int (by rw [hst.out, if_neg (by omega), if_pos (by omega)]), hb1.trans (hb2.mono hb1.size)⟩
    · exact ⟨ret_int (by rw [hst.out, if_neg (by omega), if_neg (by omega)]), hb1.trans (hb2.mono hb1.size)⟩

set_option maxHeartbeats 400000 in
theorem last_any (p : Nat) (vc vl vm : Value) (R : RSt) (k s : Int) (w : World) (h : RRep w p vc vl vm R) :
    Calls Try.prog 126 #[.pointer (some ⟨p, 0, none⟩), .int .i64 k, .int .i64 s] w fun e w' => e = .returned (.int .i64 (Ref.last R.log k s)) ∧ Below w.heap.size w w' := by
  have c3 := h.blk.cell (j := 3) rfl
  have hp := h.blk.lt
  have hh : Hid (RRep w p vc vl vm R) := h
  have hst : Hid (Ref.last R.log k s = if Ref.given R.log k s < 0 then 0 else (R.log.getD (Ref.given R.log k s).toNat Ref.Ev.no).tag) := rfl
  obtain ⟨a, cap, rfl, hcap, hmax, hrow⟩ := row_open h.log
  unfold maxLen at hmax
  have g2 := Ref.given_hi R.log k s
  by_cases h1 : Ref.given R.log k s < 0
  · clear hrow h
    go_enter Try.func126, Try.ntmps126
    go_wp2_with (go_at_call 46; refine (given_any _ _ _ _ _ _ _ _ hh.out).mono ?_; rintro e w1 ⟨rfl, hb1⟩)
    go_ret
    exact ⟨ret_int (by rw [hst.out, if_pos h1]), hb1⟩
  · obtain ⟨g, rfl, hgl, hcell, hfr⟩ := hrow (by omega)
    obtain ⟨d0, d1, d2, d3, d4, d5⟩ := ev_cells hcell (Ref.given R.log k s).toNat (by omega)
    have hst2 : Hid (Ref.last R.log k s = (R.log.getD (Ref.given R.log k s).toNat Ref.Ev.no).tag) := by rw [hst.out, if_neg h1]; rfl
    generalize R.log.getD (Ref.given R.log k s).toNat Ref.Ev.no = ev at *
    clear hcell hfr h d0 d1 d2 d4 d5 hst
    go_enter Try.func126, Try.ntmps126
    go_wp2_with (go_at_call 46; refine (given_any _ _ _ _ _ _ _ _ hh.out).mono ?_; rintro e w1 ⟨rfl, hb1⟩; have c3' := (hb1.cell (p := ⟨p, 3, none⟩) hp).trans c3; have d3' := (hb1.cell (p := ⟨g, (Ref.given R.log k s).toNat * 6 + 3, none⟩) hgl).trans d3)
    go_ret
    exact ⟨ret_int (by rw [hst2.out]), hb1⟩

set_option maxHeartbeats 400000 in
theorem rests_any (p : Nat) (vc vl vm : Value) (R : RSt) (k s : Int) (w : World) (h : RRep w p vc vl vm R) :
    Calls Try.prog 128 #[.pointer (some ⟨p, 0, none⟩), .int .i64 k, .int .i64 s] w fun e w' => e = .returned (.bool (Ref.rests R.log R.rest k s)) ∧ Below w.heap.size w w' := by
  have c1 := h.blk.cell (j := 1) rfl
  have c3 := h.blk.cell (j := 3) rfl
  have hp := h.blk.lt
  have hh : Hid (RRep w p vc vl vm R) := h
  have hst : Hid (Ref.rests R.log R.rest k s = if Ref.gone R.log k s < 0 then false else decide ((Ref.since R.log k s : Int) < R.rest)) := rfl
  obtain ⟨a, cap, rfl, hcap, hmax, hrow⟩ := row_open h.log
  unfold maxLen at hmax
  have HR : Hid (0 < R.log.length → ∃ g, a = some ⟨g, 0, none⟩ ∧ g < w.heap.size ∧ (∀ j u, (R.log.flatMap evCells)[j]? = some u → w.cell? ⟨g, j, none⟩ = some u) ∧ (∀ j, w.frozen? ⟨g, j, none⟩ = false)) := hrow
  have g1 := Ref.gone_lo R.log k s
  have g2 := Ref.gone_hi R.log k s
  clear hrow h
  by_cases h1 : Ref.gone R.log k s < 0
  · go_enter Try.func128, Try.ntmps128
    go_wp2_with (go_at_call 80; refine (gone_any _ _ _ _ _ _ _ _ hh.out).mono ?_; rintro e w1 ⟨rfl, hb1⟩)
    go_ret
    exact ⟨ret_bool (by rw [hst.out, if_pos h1]), hb1⟩
  · go_enter Try.func128, Try.ntmps128
    go_wp2_with (go_at_call 80; refine (gone_any _ _ _ _ _ _ _ _ hh.out).mono ?_; rintro e w1 ⟨rfl, hb1⟩)
    go_loopw [8, 9] (fun n i wr => ∃ m f c : Nat, m + f = R.log.length ∧ c ≤ m ∧ i = .int .i64 (m : Int) ∧ n = .int .i64 (c : Int) ∧ Hid (Ref.since R.log k s = c + Ref.countFrom (fun i => (R.log.getD i Ref.Ev.no).frees k) f m) ∧ Below w.heap.size w wr) (fun _ i _ => R.log.length - (intOf i).toNat)
    case atStart => exact ⟨(Ref.gone R.log k s + 1).toNat, R.log.length - (Ref.gone R.log k s + 1).toNat, 0, by omega, by omega, by rw [Int.toNat_of_nonneg (by omega)], rfl, by show _ = _; rw [Nat.zero_add]; rfl, hb1⟩
    case round =>
      obtain ⟨m, f, c, hm, hcm, rfl, rfl, hg, hb⟩ := hrel
      have c3' : wr.cell? ⟨p, 3, none⟩ = some (.slice a R.log.length cap) := by rw [hb.cell (p := ⟨p, 3, none⟩) hp]; exact c3
      have c1' := (hb.cell (p := ⟨p, 1, none⟩) hp).trans c1
      cases f with
      | zero =>
        have hm' : ¬ (m : Int) < R.log.length := by omega
        clear hm
        go_wp2
        go_ret
        exact ⟨ret_bool (by rw [hst.out, if_neg (by omega), hg.out]; rfl), hb⟩
      | succ f =>
        have hlt : m < R.log.length := by omega
        obtain ⟨g, rfl, hgl, hcell, hfr⟩ := HR.out (by omega)
        have hc : ∀ j u, (R.log.flatMap evCells)[j]? = some u → wr.cell? ⟨g, j, none⟩ = some u := fun j u hu => by rw [hb.cell (p := ⟨g, j, none⟩) hgl]; exact hcell j u hu
        obtain ⟨d0, d1, d2, d3, d4, d5⟩ := ev_cells hc m (by omega)
        have hst2 : Hid (Ref.countFrom (fun i => (R.log.getD i Ref.Ev.no).frees k) (f + 1) m = (if (R.log.getD m Ref.Ev.no).frees k then 1 else 0) + Ref.countFrom (fun i => (R.log.getD i Ref.Ev.no).frees k) f (m + 1)) := rfl
        have hm2 : Hid (m + (f + 1) = R.log.length) := hm
        generalize R.log.getD m Ref.Ev.no = ev at *
        clear hcell hfr hc HR c3 hm d2 d3 d4 d5
        go_wp2
        all_goals
          go_roundw
          case rel => 
            first
              | exact ⟨m + 1, f, c + 1, by have := hm2.out; omega, by omega, by go_num, by go_num, by show _ = _; rw [hg.out, hst2.out, if_pos (by simp [Ref.Ev.frees, *])]; omega, hb⟩
              | exact ⟨m + 1, f, c, by have := hm2.out; omega, by omega, by go_num, by go_num, by show _ = _; rw [hg.out, hst2.out, if_neg (by simp [Ref.Ev.frees, *])]; omega, hb⟩
          case measure => simp [intOf]; omega
end Go.Proofs.Ytjikemhmnkckcaa
namespace Go.Proofs.Ytjikemhmnkckcaa
open Go.RowKit

set_option maxHeartbeats 400000 in
theorem begin_any (st rest : Int) (a : Option Addr) (cap : Nat) (cls : List (Int × Int)) (k s : Int) (w : World) (hv : Cf.Valid st rest cls) (h : CRow w a cap cls) (k0 : 0 ≤ k) (k1 : k < cls.length) (s0 : 0 ≤ s) (s1 : s ≤ 16) :
    Calls Try.prog 47 #[.agg #[.int .i64 st, .int .i64 rest, .slice a cls.length cap], .int .i64 k, .int .i64 s] w fun e w' => e = .returned (.int .i64 (Cf.begin_ st cls k.toNat s)) ∧ Below w.heap.size w w' := by
  obtain ⟨k, rfl⟩ := Int.eq_ofNat_of_zero_le k0
  rw [Int.toNat_natCast]
  obtain ⟨g, off, rfl, hgl, hcell⟩ := h.cells hv.n0
  have hlen := h.len
  have hcap := h.cap
  have b0 := hv.st0
  have b1 := hv.st1
  have n1 := hv.n1
  unfold maxLen at hcap
  have HV : Hid (Cf.Valid st rest cls) := hv
  have HC : Hid (∀ i, i < cls.length → w.cell? ⟨g, off + i * 2, none⟩ = some (.int .i64 (Cf.gr cls i)) ∧ w.cell? ⟨g, off + i * 2 + 1, none⟩ = some (.int .i64 (Cf.sl cls i))) := hcell
  clear hv h hcell
  go_enter Try.func47, Try.ntmps47
  go_wp2
  go_loopw [7, 8] (fun x i wr => ∃ m : Nat, m ≤ k ∧ i = .int .i64 (m : Int) ∧ x = .int .i64 (Cf.gran st cls m) ∧ Below w.heap.size w wr ∧ wr.cell? ⟨w.heap.size, 2, none⟩ = some (.slice (some ⟨g, off, none⟩) cls.length cap)) (fun _ i _ => k - (intOf i).toNat)
  case atStart => exact ⟨0, by omega, rfl, by simp [Cf.gran], (Below.refl _ _).alloc (Nat.le_refl _) _, by simp⟩
  case round =>
    obtain ⟨m, hm, rfl, rfl, hb, cc⟩ := hrel
    have gb := Cf.gran_bd HV.out m (by omega)
    by_cases hlt : m < k
    · obtain ⟨d0, d1⟩ := HC.out m (by omega)
      have d0' := (hb.cell (p := ⟨g, off + m * 2, none⟩) hgl).trans d0
      have d1' := (hb.cell (p := ⟨g, off + m * 2 + 1, none⟩) hgl).trans d1
      have pb := Cf.prod_bd (by have := HV.out.s0 m (by omega); omega) (HV.out.s1 m (by omega)) (by have := HV.out.g0 m (by omega); omega) (HV.out.g1 m (by omega))
      have hg : Hid (Cf.gran st cls (m + 1) = Cf.gran st cls m + Cf.sl cls m * Cf.gr cls m + 1) := rfl
      generalize Cf.gr cls m = x at *
      generalize Cf.sl cls m = y at *
      clear d0 d1
      go_wp2
      go_quiet (fail)
      go_wp2
      go_roundw
      case rel => exact ⟨m + 1, by omega, by go_num, by rw [hg.out], below_drewN hb _, cc⟩
      case measure => simp [intOf]; omega
    · obtain rfl : m = k := by omega
      obtain ⟨d0, d1⟩ := HC.out m (by omega)
      have d0' := (hb.cell (p := ⟨g, off + m * 2, none⟩) hgl).trans d0
      have pb := Cf.prod_bd s0 s1 (by have := HV.out.g0 m (by omega); omega) (HV.out.g1 m (by omega))
      have hbe : Hid (Cf.begin_ st cls m s = 16 * (Cf.gran st cls m + s * Cf.gr cls m)) := rfl
      generalize Cf.gr cls m = x at *
      clear d0 d1
      go_wp2
      go_ret
      exact ⟨ret_int (by rw [hbe.out]), hb⟩

/-- class i, as granuleref.Valid looks at it -/
theorem entry_no {cls : List (Int × Int)} {st rest : Int} {m : Nat} (hm : m < cls.length) (h : Cf.entryB cls m = false) : Cf.validB st rest cls = false := by
  simp [Cf.validB, Cf.allTo_false _ hm h]

set_option maxHeartbeats 1000000 in
theorem valid_any (st rest : Int) (a : Option Addr) (cap : Nat) (cls : List (Int × Int)) (w : World) (h : CRow w a cap cls) :
    Calls Try.prog 77 #[.agg #[.int .i64 st, .int .i64 rest, .slice a cls.length cap]] w fun e w' => e = .returned (.bool (Cf.validB st rest cls)) ∧ Below w.heap.size w w' := by
  have hlen := h.len
  have hcap := h.cap
  unfold maxLen at hcap
  have HC : Hid (CCells w a cls) := h.cells
  clear h
  cases hh : Cf.headB st rest
  · have hvb : Hid (Cf.validB st rest cls = false) := by show _ = _; simp [Cf.validB, hh]
    have hno : st < 0 ∨ 16 < st ∨ rest < 0 ∨ 16 < rest := by
      by_cases h1 : 0 ≤ st <;> by_cases h2 : st ≤ 16 <;> by_cases h3 : 0 ≤ rest <;> by_cases h4 : rest ≤ 16 <;> simp [Cf.headB, h1, h2, h3, h4] at hh <;> omega
    clear hh
    go_enter Try.func77, Try.ntmps77
    go_wp2
    all_goals
      go_ret
      exact ⟨ret_bool hvb.out.symm, (Below.refl _ _).alloc (Nat.le_refl _) _⟩
  · have hyes : 0 ≤ st ∧ st ≤ 16 ∧ 0 ≤ rest ∧ rest ≤ 16 := by
      simp only [Cf.headB, Bool.and_eq_true, decide_eq_true_eq] at hh; omega
    obtain ⟨y1, y2, y3, y4⟩ := hyes
    have hvb : Hid (Cf.validB st rest cls = (Cf.allTo (Cf.entryB cls) cls.length && decide (0 < cls.length))) := by show _ = _; simp [Cf.validB, hh]
    clear hh
    go_enter Try.func77, Try.ntmps77
    go_wp2
    go_loopw [3] (fun i wr => ∃ m : Nat, m ≤ cls.length ∧ i = .int .i64 (m : Int) ∧ Hid (Cf.allTo (Cf.entryB cls) m = true) ∧ Below w.heap.size w wr ∧ w.heap.size < wr.heap.size ∧ wr.cell? ⟨w.heap.size, 2, none⟩ = some (.slice a cls.length cap)) (fun i _ => cls.length - (intOf i).toNat)
    case atStart => exact ⟨0, by omega, rfl, rfl, (Below.refl _ _).alloc (Nat.le_refl _) _, by simp, by simp⟩
    case round =>
      obtain ⟨m, hm, rfl, hall, hb, hsz, cc⟩ := hrel
      by_cases hlt : m < cls.length
      · obtain ⟨g, off, rfl, hgl, hcell⟩ := HC.out (by omega)
        obtain ⟨d0, d1⟩ := hcell m hlt
        have d0' := (hb.cell (p := ⟨g, off + m * 2, none⟩) hgl).trans d0
        have d1' := (hb.cell (p := ⟨g, off + m * 2 + 1, none⟩) hgl).trans d1
        have hent : Hid (Cf.entryB cls m = (decide (m < 4) && decide (1 ≤ Cf.gr cls m) && decide (Cf.gr cls m ≤ 8) && decide (1 ≤ Cf.sl cls m) && decide (Cf.sl cls m ≤ 16) && Cf.allTo (fun j => decide (Cf.gr cls j < Cf.gr cls m)) m)) := rfl
        have HG : Hid (∀ n, n < m → w.cell? ⟨g, off + n * 2, none⟩ = some (.int .i64 (Cf.gr cls n))) := fun n hn => (hcell n (by omega)).1
        clear HC d0 d1 hcell
        by_cases hq : m < 4 ∧ 1 ≤ Cf.gr cls m ∧ Cf.gr cls m ≤ 8 ∧ 1 ≤ Cf.sl cls m ∧ Cf.sl cls m ≤ 16
        · obtain ⟨q1, q2, q3, q4, q5⟩ := hq
          have hent2 : Hid (Cf.entryB cls m = Cf.allTo (fun j => decide (Cf.gr cls j < Cf.gr cls m)) m) := by show _ = _; rw [hent.out]; simp [q1, q2, q3, q4, q5]
          clear hent
          generalize Cf.gr cls m = x at *
          generalize Cf.sl cls m = y at *
          go_wp2
          go_loopw [5] (fun j wr2 => ∃ n : Nat, n ≤ m ∧ j = .int .i64 (n : Int) ∧ Hid (Cf.allTo (fun j => decide (Cf.gr cls j < x)) n = true) ∧ Below w.heap.size w wr2 ∧ w.heap.size < wr2.heap.size ∧ wr2.cell? ⟨w.heap.size, 2, none⟩ = some (.slice (some ⟨g, off, none⟩) cls.length cap) ∧ wr2.cell? ⟨wr.heap.size, 0, none⟩ = some (.int .i64 x)) (fun j _ => m - (intOf j).toNat)
          case atStart => exact ⟨0, by omega, rfl, rfl, hb.alloc hb.size _, by rw [World.size_alloc]; omega, by rw [World.cell?_alloc_lt _ _ _ hsz]; exact cc, by simp⟩
          case round =>
            obtain ⟨n, hn, rfl, hal2, hb2, hsz2, cc2, cx2⟩ := hrel
            clear cc d0' d1' hb hsz
            by_cases hlt2 : n < m
            · have e0 := (hb2.cell (p := ⟨g, off + n * 2, none⟩) hgl).trans (HG.out n hlt2)
              have hnx : Hid (Cf.allTo (fun j => decide (Cf.gr cls j < x)) (n + 1) = (Cf.allTo (fun j => decide (Cf.gr cls j < x)) n && decide (Cf.gr cls n < x))) := rfl
              have hfl : Hid (decide (Cf.gr cls n < x) = false → Cf.validB st rest cls = false) := fun hf => entry_no hlt (by rw [hent2.out]; exact Cf.allTo_false _ hlt2 hf)
              have i0 : (n : Int) < cls.length := by omega
              generalize Cf.gr cls n = z at *
              by_cases hz : z < x
              · go_wp2
                go_quiet (fail)
                go_wp2
                go_roundw
                case rel => exact ⟨n + 1, by omega, by go_num, hnx.out.trans (by rw [hal2.out]; simp [hz]), below_drewN hb2 _, hsz2, cc2, cx2⟩
                case measure => simp [intOf]; omega
              · go_wp2
                go_quiet (fail)
                go_wp2
                go_ret
                exact ⟨ret_bool (hfl.out (by simp; omega)).symm, below_drewN hb2 _⟩
            · obtain rfl : n = m := by omega
              go_wp2
              go_roundw
              case rel => exact ⟨n + 1, by omega, by go_num, by show (_ && _) = true; rw [hall.out, hent2.out, hal2.out]; rfl, hb2, hsz2, cc2⟩
              case measure => simp [intOf]; omega
        · have hfalse : Hid (Cf.validB st rest cls = false) := by
            refine entry_no hlt ?_
            rw [hent.out]
            simp only [Bool.and_eq_false_iff, decide_eq_false_iff_not]
            omega
          clear hent
          generalize Cf.gr cls m = x at *
          generalize Cf.sl cls m = y at *
          go_wp2
          all_goals
            go_ret
            exact ⟨ret_bool hfalse.out.symm, hb.alloc hb.size _⟩
      · obtain rfl : m = cls.length := by omega
        go_wp2
        go_ret
        exact ⟨ret_bool (by rw [hvb.out, hall.out, Bool.true_and]), hb⟩
end Go.Proofs.Ytjikemhmnkckcaa
