import Derived.Test.YtjikemhmnkckcabGreatJ1
namespace Go.Proofs.YtjikemhmnkckcabGreat
open Go.RowKit

set_option maxHeartbeats 400000 in
theorem given_any (p : Nat) (vc vl vm : Value) (R : RSt) (k s : Int) (w : World) (h : RRep w p vc vl vm R) :
    Calls Tryz.prog 62 #[.pointer (some ⟨p, 0, none⟩), .int .i64 k, .int .i64 s] w fun e w' => e = .returned (.int .i64 (Ref.given R.log k s)) ∧ Below w.heap.size w w' := by
  have c3 := h.blk.cell (j := 3) rfl
  have hp := h.blk.lt
  obtain ⟨a, cap, rfl, hcap, hmax, hrow⟩ := row_open h.log
  unfold maxLen at hmax
  have HR : Hid (0 < R.log.length → ∃ g, a = some ⟨g, 0, none⟩ ∧ g < w.heap.size ∧ (∀ j u, (R.log.flatMap evCells)[j]? = some u → w.cell? ⟨g, j, none⟩ = some u) ∧ (∀ j, w.frozen? ⟨g, j, none⟩ = false)) := hrow
  clear hrow h
  go_enter Tryz.func62, Tryz.ntmps62
  go_wp2
  go_loopw [7] (fun i wr => ∃ m : Nat, m ≤ R.log.length ∧ i = .int .i64 ((m : Int) - 1) ∧ Hid (Ref.given R.log k s = Ref.givenTo R.log k s m) ∧ Below w.heap.size w wr) (fun i _ => (intOf i + 1).toNat)
  case atStart => exact ⟨_, Nat.le_refl _, rfl, rfl, Below.refl _ _⟩
  case round =>
    obtain ⟨m, hm, rfl, hg, hb⟩ := hrel
    cases m with
    | zero =>
      go_wp2
      go_ret
      exact ⟨ret_int hg.out.symm, hb⟩
    | succ i =>
      obtain ⟨g, rfl, hgl, hcell, hfr⟩ := HR.out (by omega)
      have e1 : ((i + 1 : Nat) : Int) - 1 = (i : Int) := by omega
      rw [e1]
      have hc : ∀ j u, (R.log.flatMap evCells)[j]? = some u → wr.cell? ⟨g, j, none⟩ = some u := fun j u hu => by rw [hb.cell (p := ⟨g, j, none⟩) hgl]; exact hcell j u hu
      obtain ⟨d0, d1, d2, d3, d4, d5⟩ := ev_cells hc i (by omega)
      have c3' : wr.cell? ⟨p, 3, none⟩ = some (.slice (some ⟨g, 0, none⟩) R.log.length cap) := by rw [hb.cell (p := ⟨p, 3, none⟩) hp]; exact c3
      have hst : Hid (Ref.givenTo R.log k s (i + 1) = if (R.log.getD i Ref.Ev.no).gives k s then (i : Int) else Ref.givenTo R.log k s i) := rfl
      generalize R.log.getD i Ref.Ev.no = ev at *
      clear hcell hfr hc
      clear HR c3 e1
      go_wp2
      case roundEnd => 
        go_roundw
        case rel => exact ⟨i, by omega, rfl, hg.out.trans (hst.out.trans (if_neg (by simp [Ref.Ev.gives, *]))), hb.alloc hb.size _⟩
        case measure => simp [intOf]
      case roundEnd => 
        go_roundw
        case rel => exact ⟨i, by omega, rfl, hg.out.trans (hst.out.trans (if_neg (by simp [Ref.Ev.gives, *]))), hb.alloc hb.size _⟩
        case measure => simp [intOf]
      case roundEnd => 
        go_roundw
        case rel => exact ⟨i, by omega, rfl, hg.out.trans (hst.out.trans (if_neg (by simp [Ref.Ev.gives, *]))), hb.alloc hb.size _⟩
        case measure => simp [intOf]
      go_ret
      exact ⟨ret_int (hg.out.trans (hst.out.trans (if_pos (by simp [Ref.Ev.gives, *])))).symm, hb.alloc hb.size _⟩

set_option maxHeartbeats 400000 in
theorem gone_any (p : Nat) (vc vl vm : Value) (R : RSt) (k s : Int) (w : World) (h : RRep w p vc vl vm R) :
    Calls Tryz.prog 124 #[.pointer (some ⟨p, 0, none⟩), .int .i64 k, .int .i64 s] w fun e w' => e = .returned (.int .i64 (Ref.gone R.log k s)) ∧ Below w.heap.size w w' := by
  have c3 := h.blk.cell (j := 3) rfl
  have hp := h.blk.lt
  have hh : Hid (RRep w p vc vl vm R) := h
  obtain ⟨a, cap, rfl, hcap, hmax, hrow⟩ := row_open h.log
  unfold maxLen at hmax
  have HR : Hid (0 < R.log.length → ∃ g, a = some ⟨g, 0, none⟩ ∧ g < w.heap.size ∧ (∀ j u, (R.log.flatMap evCells)[j]? = some u → w.cell? ⟨g, j, none⟩ = some u) ∧ (∀ j, w.frozen? ⟨g, j, none⟩ = false)) := hrow
  have g1 := Ref.given_lo R.log k s
  have g2 := Ref.given_hi R.log k s
  clear hrow h
  go_enter Tryz.func124, Tryz.ntmps124
  go_wp2_with (go_at_call 62; refine (given_any _ _ _ _ _ _ _ _ hh.out).mono ?_; rintro e w1 ⟨rfl, hb1⟩)
  have c3' : w1.cell? ⟨p, 3, none⟩ = some (.slice a R.log.length cap) := by rw [hb1.cell (p := ⟨p, 3, none⟩) hp]; exact c3
  go_loopw [8] (fun i wr => ∃ m f : Nat, m + f = R.log.length ∧ i = .int .i64 (m : Int) ∧ Hid (Ref.gone R.log k s = Ref.firstFrom (fun i => (R.log.getD i Ref.Ev.no).takes k s) f m) ∧ Below w.heap.size w wr) (fun i _ => R.log.length - (intOf i).toNat)
  case atStart => exact ⟨(Ref.given R.log k s + 1).toNat, R.log.length - (Ref.given R.log k s + 1).toNat, by omega, by rw [Int.toNat_of_nonneg (by omega)], rfl, hb1⟩
  case round =>
    obtain ⟨m, f, hm, rfl, hg, hb⟩ := hrel
    have c3' : wr.cell? ⟨p, 3, none⟩ = some (.slice a R.log.length cap) := by rw [hb.cell (p := ⟨p, 3, none⟩) hp]; exact c3
    cases f with
    | zero =>
      have hm' : ¬ (m : Int) < R.log.length := by omega
      clear hm
      go_wp2
      go_ret
      exact ⟨ret_int hg.out.symm, hb⟩
    | succ f =>
      have hlt : m < R.log.length := by omega
      obtain ⟨g, rfl, hgl, hcell, hfr⟩ := HR.out (by omega)
      have hc : ∀ j u, (R.log.flatMap evCells)[j]? = some u → wr.cell? ⟨g, j, none⟩ = some u := fun j u hu => by rw [hb.cell (p := ⟨g, j, none⟩) hgl]; exact hcell j u hu
      obtain ⟨d0, d1, d2, d3, d4, d5⟩ := ev_cells hc m (by omega)
      have hst : Hid (Ref.firstFrom (fun i => (R.log.getD i Ref.Ev.no).takes k s) (f + 1) m = if (R.log.getD m Ref.Ev.no).takes k s then (m : Int) else Ref.firstFrom (fun i => (R.log.getD i Ref.Ev.no).takes k s) f (m + 1)) := rfl
      have hm2 : Hid (m + (f + 1) = R.log.length) := hm
      generalize R.log.getD m Ref.Ev.no = ev at *
      clear hcell hfr hc HR c3 hm
      go_wp2
      case roundEnd => 
        go_roundw
        case rel => exact ⟨m + 1, f, by have := hm2.out; omega, by go_num, hg.out.trans (hst.out.trans (if_neg (by simp [Ref.Ev.takes, *]))), hb.alloc hb.size _⟩
        case measure => simp [intOf]; omega
      case roundEnd => 
        go_roundw
        case rel => exact ⟨m + 1, f, by have := hm2.out; omega, by go_num, hg.out.trans (hst.out.trans (if_neg (by simp [Ref.Ev.takes, *]))), hb.alloc hb.size _⟩
        case measure => simp [intOf]; omega
      case roundEnd => 
        go_roundw
        case rel => exact ⟨m + 1, f, by have := hm2.out; omega, by go_num, hg.out.trans (hst.out.trans (if_neg (by simp [Ref.Ev.takes, *]))), hb.alloc hb.size _⟩
        case measure => simp [intOf]; omega
      go_ret
      exact ⟨ret_int (hg.out.trans (hst.out.trans (if_pos (by simp [Ref.Ev.takes, *])))).symm, hb.alloc hb.size _⟩

end Go.Proofs.YtjikemhmnkckcabGreat
namespace Go.Proofs.YtjikemhmnkckcabGreat
open Go.RowKit

set_option maxHeartbeats 400000 in
theorem state_any (p : Nat) (vc vl vm : Value) (R : RSt) (k s : Int) (w : World) (h : RRep w p vc vl vm R) :
    Calls Tryz.prog 91 #[.pointer (some ⟨p, 0, none⟩), .int .i64 k, .int .i64 s] w fun e w' => e = .returned (.int .i64 (Ref.state R.log k s)) ∧ Below w.heap.size w w' := by
  have hh : Hid (RRep w p vc vl vm R) := h
  have hst : Hid (Ref.state R.log k s = if Ref.given R.log k s < 0 then 2 else if Ref.gone R.log k s < 0 then 3 else 4) := rfl
  clear h
  by_cases h1 : Ref.given R.log k s < 0
  · go_enter Tryz.func91, Tryz.ntmps91
    go_wp2_with (go_at_call 62; refine (given_any _ _ _ _ _ _ _ _ hh.out).mono ?_; rintro e w1 ⟨rfl, hb1⟩)
    go_ret
    exact ⟨ret_int (by rw [hst.out, if_pos h1]), hb1⟩
  · by_cases h2 : Ref.gone R.log k s < 0
    all_goals
      go_enter Tryz.func91, Tryz.ntmps91
      go_wp2_with (first | (go_at_call 62; refine (given_any _ _ _ _ _ _ _ _ hh.out).mono ?_; rintro e w1 ⟨rfl, hb1⟩) | (go_at_call 124; refine (gone_any _ _ _ _ _ _ _ _ (hh.out.below hb1)).mono ?_; rintro e w2 ⟨rfl, hb2⟩))
      go_ret
    · exact ⟨ret_int (by rw [hst.out, if_neg (by omega), if_pos (by omega)]), hb1.trans (hb2.mono hb1.size)⟩
    · exact ⟨ret_int (by rw [hst.out, if_neg (by omega), if_neg (by omega)]), hb1.trans (hb2.mono hb1.size)⟩

set_option maxHeartbeats 400000 in
theorem last_any (p : Nat) (vc vl vm : Value) (R : RSt) (k s : Int) (w : World) (h : RRep w p vc vl vm R) :
    Calls Tryz.prog 90 #[.pointer (some ⟨p, 0, none⟩), .int .i64 k, .int .i64 s] w fun e w' => e = .returned (.int .i64 (Ref.last R.log k s)) ∧ Below w.heap.size w w' := by
  have c3 := h.blk.cell (j := 3) rfl
  have hp := h.blk.lt
  have hh : Hid (RRep w p vc vl vm R) := h
  have hst : Hid (Ref.last R.log k s = if Ref.given R.log k s < 0 then 0 else (R.log.getD (Ref.given R.log k s).toNat Ref.Ev.no).tag) := rfl
  obtain ⟨a, cap, rfl, hcap, hmax, hrow⟩ := row_open h.log
  unfold maxLen at hmax
  have g2 := Ref.given_hi R.log k s
  by_cases h1 : Ref.given R.log k s < 0
  · clear hrow h
    go_enter Tryz.func90, Tryz.ntmps90
    go_wp2_with (go_at_call 62; refine (given_any _ _ _ _ _ _ _ _ hh.out).mono ?_; rintro e w1 ⟨rfl, hb1⟩)
    go_ret
    exact ⟨ret_int (by rw [hst.out, if_pos h1]), hb1⟩
  · obtain ⟨g, rfl, hgl, hcell, hfr⟩ := hrow (by omega)
    obtain ⟨d0, d1, d2, d3, d4, d5⟩ := ev_cells hcell (Ref.given R.log k s).toNat (by omega)
    have hst2 : Hid (Ref.last R.log k s = (R.log.getD (Ref.given R.log k s).toNat Ref.Ev.no).tag) := by rw [hst.out, if_neg h1]; rfl
    generalize R.log.getD (Ref.given R.log k s).toNat Ref.Ev.no = ev at *
    clear hcell hfr h d0 d1 d2 d4 d5 hst
    go_enter Tryz.func90, Tryz.ntmps90
    go_wp2_with (go_at_call 62; refine (given_any _ _ _ _ _ _ _ _ hh.out).mono ?_; rintro e w1 ⟨rfl, hb1⟩; have c3' := (hb1.cell (p := ⟨p, 3, none⟩) hp).trans c3; have d3' := (hb1.cell (p := ⟨g, (Ref.given R.log k s).toNat * 6 + 3, none⟩) hgl).trans d3)
    go_ret
    exact ⟨ret_int (by rw [hst2.out]), hb1⟩

set_option maxHeartbeats 400000 in
theorem rests_any (p : Nat) (vc vl vm : Value) (R : RSt) (k s : Int) (w : World) (h : RRep w p vc vl vm R) :
    Calls Tryz.prog 149 #[.pointer (some ⟨p, 0, none⟩), .int .i64 k, .int .i64 s] w fun e w' => e = .returned (.bool (Ref.rests R.log R.rest k s)) ∧ Below w.heap.size w w' := by
  have c1 := h.blk.cell (j := 1) rfl
  have c3 := h.blk.cell (j := 3) rfl
  have hp := h.blk.lt
  have hh : Hid (RRep w p vc vl vm R) := h
  have hst : Hid (Ref.rests R.log R.rest k s = if Ref.gone R.log k s < 0 then false else decide ((Ref.since R.log k s : Int) < R.rest)) := rfl
  obtain ⟨a, cap, rfl, hcap, hmax, hrow⟩ := row_open h.log
  unfold maxLen at hmax
  have HR : Hid (0 < R.log.length → ∃ g, a = some ⟨g, 0, none⟩ ∧ g < w.heap.size ∧ (∀ j u, (R.log.flatMap evCells)[j]? = some u → w.cell? ⟨g, j, none⟩ = some u) ∧ (∀ j, w.frozen? ⟨g, j, none⟩ = false)) := hrow
  have g1 := Ref.gone_lo R.log k s
  have g2 := Ref.gone_hi R.log k s
  clear hrow h
  by_cases h1 : Ref.gone R.log k s < 0
  · go_enter Tryz.func149, Tryz.ntmps149
    go_wp2_with (go_at_call 124; refine (gone_any _ _ _ _ _ _ _ _ hh.out).mono ?_; rintro e w1 ⟨rfl, hb1⟩)
    go_ret
    exact ⟨ret_bool (by rw [hst.out, if_pos h1]), hb1⟩
  · go_enter Tryz.func149, Tryz.ntmps149
    go_wp2_with (go_at_call 124; refine (gone_any _ _ _ _ _ _ _ _ hh.out).mono ?_; rintro e w1 ⟨rfl, hb1⟩)
    go_loopw [8, 9] (fun n i wr => ∃ m f c : Nat, m + f = R.log.length ∧ c ≤ m ∧ i = .int .i64 (m : Int) ∧ n = .int .i64 (c : Int) ∧ Hid (Ref.since R.log k s = c + Ref.countFrom (fun i => (R.log.getD i Ref.Ev.no).frees k) f m) ∧ Below w.heap.size w wr) (fun _ i _ => R.log.length - (intOf i).toNat)
    case atStart => exact ⟨(Ref.gone R.log k s + 1).toNat, R.log.length - (Ref.gone R.log k s + 1).toNat, 0, by omega, by omega, by rw [Int.toNat_of_nonneg (by omega)], rfl, by show _ = _; rw [Nat.zero_add]; rfl, hb1⟩
    case round =>
      obtain ⟨m, f, c, hm, hcm, rfl, rfl, hg, hb⟩ := hrel
      have c3' : wr.cell? ⟨p, 3, none⟩ = some (.slice a R.log.length cap) := by rw [hb.cell (p := ⟨p, 3, none⟩) hp]; exact c3
      have c1' := (hb.cell (p := ⟨p, 1, none⟩) hp).trans c1
      cases f with
      | zero =>
        have hm' : ¬ (m : Int) < R.log.length := by omega
        clear hm
        go_wp2
        go_ret
        exact ⟨ret_bool (by rw [hst.out, if_neg (by omega), hg.out]; rfl), hb⟩
      | succ f =>
        have hlt : m < R.log.length := by omega
        obtain ⟨g, rfl, hgl, hcell, hfr⟩ := HR.out (by omega)
        have hc : ∀ j u, (R.log.flatMap evCells)[j]? = some u → wr.cell? ⟨g, j, none⟩ = some u := fun j u hu => by rw [hb.cell (p := ⟨g, j, none⟩) hgl]; exact hcell j u hu
        obtain ⟨d0, d1, d2, d3, d4, d5⟩ := ev_cells hc m (by omega)
        have hst2 : Hid (Ref.countFrom (fun i => (R.log.getD i Ref.Ev.no).frees k) (f + 1) m = (if (R.log.getD m Ref.Ev.no).frees k then 1 else 0) + Ref.countFrom (fun i => (R.log.getD i Ref.Ev.no).frees k) f (m + 1)) := rfl
        have hm2 : Hid (m + (f + 1) = R.log.length) := hm
        generalize R.log.getD m Ref.Ev.no = ev at *
        clear hcell hfr hc HR c3 hm d2 d3 d4 d5
        go_wp2
        all_goals
          go_roundw
          case rel => 
            first
              | exact ⟨m + 1, f, c + 1, by have := hm2.out; omega, by omega, by go_num, by go_num, by show _ = _; rw [hg.out, hst2.out, if_pos (by simp [Ref.Ev.frees, *])]; omega, hb⟩
              | exact ⟨m + 1, f, c, by have := hm2.out; omega, by omega, by go_num, by go_num, by show _ = _; rw [hg.out, hst2.out, if_neg (by simp [Ref.Ev.frees, *])]; omega, hb⟩
          case measure => simp [intOf]; omega
end Go.Proofs.YtjikemhmnkckcabGreat
/- Plain mathematics of configurations: valid ones, where a slot begins, in which slot an address lies. No program in sight. -/
namespace Go.Proofs.YtjikemhmnkckcabGreat
namespace Cf

def gr (cls : List (Int × Int)) (i : Nat) : Int := (cls.getD i (0, 0)).1
def sl (cls : List (Int × Int)) (i : Nat) : Int := (cls.getD i (0, 0)).2

def allTo (p : Nat → Bool) : Nat → Bool
  | 0 => true
  | n + 1 => allTo p n && p n
theorem allTo_iff (p : Nat → Bool) (n : Nat) : allTo p n = true ↔ ∀ i, i < n → p i = true := by
  induction n with
  | zero => simp [allTo]
  | succ n ih =>
    simp only [allTo, Bool.and_eq_true, ih]
    constructor
    · rintro ⟨h1, h2⟩ i hi
      by_cases e : i = n
      · subst e; exact h2
      · exact h1 i (by omega)
    · intro h
      exact ⟨fun i hi => h i (by omega), h n (by omega)⟩
theorem allTo_false (p : Nat → Bool) {n i : Nat} (hi : i < n) (h : p i = false) : allTo p n = false := by
  cases e : allTo p n
  · rfl
  · rw [(allTo_iff p n).1 e i hi] at h; cases h

/-- granuleref's look at class i -/
def entryB (cls : List (Int × Int)) (i : Nat) : Bool :=
  decide (i < 4) && decide (1 ≤ gr cls i) && decide (gr cls i ≤ 8) && decide (1 ≤ sl cls i) && decide (sl cls i ≤ 16) && allTo (fun j => decide (gr cls j < gr cls i)) i
def headB (st rest : Int) : Bool := decide (0 ≤ st) && decide (st ≤ 16) && decide (0 ≤ rest) && decide (rest ≤ 16)
def validB (st rest : Int) (cls : List (Int × Int)) : Bool := headB st rest && (allTo (entryB cls) cls.length && decide (0 < cls.length))

structure Valid (st rest : Int) (cls : List (Int × Int)) : Prop where
  st0 : 0 ≤ st
  st1 : st ≤ 16
  re0 : 0 ≤ rest
  re1 : rest ≤ 16
  n0 : 0 < cls.length
  n1 : cls.length ≤ 4
  g0 : ∀ i, i < cls.length → 1 ≤ gr cls i
  g1 : ∀ i, i < cls.length → gr cls i ≤ 8
  s0 : ∀ i, i < cls.length → 1 ≤ sl cls i
  s1 : ∀ i, i < cls.length → sl cls i ≤ 16
  up : ∀ i j, i < cls.length → j < i → gr cls j < gr cls i

theorem valid_of {st rest : Int} {cls : List (Int × Int)} (h : validB st rest cls = true) : Valid st rest cls := by
  simp only [validB, headB, Bool.and_eq_true, decide_eq_true_eq, allTo_iff] at h
  obtain ⟨⟨⟨⟨h1, h2⟩, h3⟩, h4⟩, h5, h6⟩ := h
  have he : ∀ i, i < cls.length → i < 4 ∧ 1 ≤ gr cls i ∧ gr cls i ≤ 8 ∧ 1 ≤ sl cls i ∧ sl cls i ≤ 16 ∧ ∀ j, j < i → gr cls j < gr cls i := fun i hi => by
    have := h5 i hi
    simp only [entryB, Bool.and_eq_true, decide_eq_true_eq, allTo_iff] at this
    obtain ⟨⟨⟨⟨⟨a, b⟩, c⟩, d⟩, e⟩, f⟩ := this
    exact ⟨a, b, c, d, e, f⟩
  refine ⟨h1, h2, h3, h4, h6, ?_, fun i hi => (he i hi).2.1, fun i hi => (he i hi).2.2.1, fun i hi => (he i hi).2.2.2.1, fun i hi => (he i hi).2.2.2.2.1, fun i j hi hj => (he i hi).2.2.2.2.2 j hj⟩
  have := (he (cls.length - 1) (by omega)).1
  omega

theorem validB_of {st rest : Int} {cls : List (Int × Int)} (h : Valid st rest cls) : validB st rest cls = true := by
  simp only [validB, headB, Bool.and_eq_true, decide_eq_true_eq, allTo_iff]
  refine ⟨⟨⟨⟨h.st0, h.st1⟩, h.re0⟩, h.re1⟩, fun i hi => ?_, h.n0⟩
  have := h.n1
  simp only [entryB, Bool.and_eq_true, decide_eq_true_eq, allTo_iff]
  exact ⟨⟨⟨⟨⟨by omega, h.g0 i hi⟩, h.g1 i hi⟩, h.s0 i hi⟩, h.s1 i hi⟩, fun j hj => h.up i j hi hj⟩

/-- the granules ahead of class k -/
def gran (st : Int) (cls : List (Int × Int)) : Nat → Int
  | 0 => 1 + st + 1
  | k + 1 => gran st cls k + sl cls k * gr cls k + 1
def begin_ (st : Int) (cls : List (Int × Int)) (k : Nat) (s : Int) : Int := 16 * (gran st cls k + s * gr cls k)

theorem prod_bd {a b : Int} (a0 : 0 ≤ a) (a1 : a ≤ 16) (b0 : 0 ≤ b) (b1 : b ≤ 8) : 0 ≤ a * b ∧ a * b ≤ 128 :=
  ⟨Int.mul_nonneg a0 b0, Int.le_trans (Int.mul_le_mul_of_nonneg_right a1 b0) (by omega)⟩

theorem gran_bd {st rest : Int} {cls : List (Int × Int)} (h : Valid st rest cls) (k : Nat) (hk : k ≤ cls.length) : 2 ≤ gran st cls k ∧ gran st cls k ≤ 18 + 129 * k := by
  induction k with
  | zero => have := h.st0; have := h.st1; simp only [gran]; omega
  | succ k ih =>
    have h1 := ih (by omega)
    have h2 := prod_bd (by have := h.s0 k (by omega); omega) (h.s1 k (by omega)) (by have := h.g0 k (by omega); omega) (h.g1 k (by omega))
    simp only [gran]; omega

theorem begin_bd {st rest : Int} {cls : List (Int × Int)} (h : Valid st rest cls) (k : Nat) (hk : k < cls.length) (s : Int) (s0 : 0 ≤ s) (s1 : s ≤ 16) : 32 ≤ begin_ st cls k s ∧ begin_ st cls k s ≤ 8640 := by
  have h1 := gran_bd h k (by omega)
  have h2 := prod_bd s0 s1 (by have := h.g0 k hk; omega) (h.g1 k hk)
  have h3 := h.n1
  unfold begin_; omega


/-- lies the address in that slot? -/
def inS (st : Int) (cls : List (Int × Int)) (addr : Int) (k s : Nat) : Bool := decide (begin_ st cls k s ≤ addr) && decide (addr < begin_ st cls k s + 16 * gr cls k)
def slotIn (st : Int) (cls : List (Int × Int)) (addr : Int) (k : Nat) : Int := Ref.firstFrom (inS st cls addr k) (sl cls k).toNat 0
def slotFrom (st : Int) (cls : List (Int × Int)) (addr : Int) : Nat → Nat → Int × Int
  | 0, _ => (-1, -1)
  | f + 1, k => if 0 ≤ slotIn st cls addr k then ((k : Int), slotIn st cls addr k) else slotFrom st cls addr f (k + 1)
/-- granuleref.Slot -/
def slot (st : Int) (cls : List (Int × Int)) (addr : Int) : Int × Int := slotFrom st cls addr cls.length 0

theorem slotIn_bd (st : Int) (cls : List (Int × Int)) (addr : Int) (k : Nat) (h : 0 ≤ slotIn st cls addr k) : (slotIn st cls addr k).toNat < (sl cls k).toNat ∧ inS st cls addr k (slotIn st cls addr k).toNat = true := by
  have h1 := Ref.firstFrom_hi (inS st cls addr k) (sl cls k).toNat 0
  have h2 := Ref.firstFrom_at (inS st cls addr k) (sl cls k).toNat 0 h
  unfold slotIn at h ⊢
  exact ⟨by omega, h2.2⟩

theorem slotFrom_bd (st : Int) (cls : List (Int × Int)) (addr : Int) (f k : Nat) : slotFrom st cls addr f k = (-1, -1) ∨
    ∃ i j : Nat, slotFrom st cls addr f k = ((i : Int), (j : Int)) ∧ k ≤ i ∧ i < k + f ∧ j < (sl cls i).toNat ∧ inS st cls addr i j = true := by
  induction f generalizing k with
  | zero => exact .inl rfl
  | succ f ih =>
    simp only [slotFrom]
    by_cases h : 0 ≤ slotIn st cls addr k
    · rw [if_pos h]
      have hb := slotIn_bd st cls addr k h
      exact .inr ⟨k, (slotIn st cls addr k).toNat, by rw [Int.toNat_of_nonneg h], by omega, by omega, hb.1, hb.2⟩
    · rw [if_neg h]
      rcases ih (k + 1) with h1 | ⟨i, j, h1, h2, h3, h4⟩
      · exact .inl h1
      · exact .inr ⟨i, j, h1, by omega, by omega, h4⟩

theorem slot_bd (st : Int) (cls : List (Int × Int)) (addr : Int) : slot st cls addr = (-1, -1) ∨
    ∃ i j : Nat, slot st cls addr = ((i : Int), (j : Int)) ∧ i < cls.length ∧ j < (sl cls i).toNat ∧ inS st cls addr i j = true := by
  rcases slotFrom_bd st cls addr cls.length 0 with h1 | ⟨i, j, h1, _, h3, h4⟩
  · exact .inl h1
  · exact .inr ⟨i, j, h1, by omega, h4⟩

/-- granuleref.Tag -/
def tag (st : Int) (cls : List (Int × Int)) (log : List Ref.Ev) (addr : Int) : Int :=
  if 16 ≤ addr ∧ addr < 16 * (1 + st) then 0
  else if (slot st cls addr).1 < 0 then -1
  else if Ref.state log (slot st cls addr).1 (slot st cls addr).2 ≠ 3 then 15
  else if begin_ st cls (slot st cls addr).1.toNat (slot st cls addr).2 + 16 * (log.getD (Ref.given log (slot st cls addr).1 (slot st cls addr).2).toNat Ref.Ev.no).size ≤ addr then 15
  else (log.getD (Ref.given log (slot st cls addr).1 (slot st cls addr).2).toNat Ref.Ev.no).tag
end Cf
end Go.Proofs.YtjikemhmnkckcabGreat
/- A list of classes that can be read (whoever owns it). -/
namespace Go.Proofs.YtjikemhmnkckcabGreat
open Go.RowKit

/-- the list's cells -/
def CCells (w : World) (a : Option Addr) (cls : List (Int × Int)) : Prop :=
  0 < cls.length → ∃ g off, a = some ⟨g, off, none⟩ ∧ g < w.heap.size ∧ ∀ i, i < cls.length → w.cell? ⟨g, off + i * 2, none⟩ = some (.int .i64 (Cf.gr cls i)) ∧ w.cell? ⟨g, off + i * 2 + 1, none⟩ = some (.int .i64 (Cf.sl cls i))

structure CRow (w : World) (a : Option Addr) (cap : Nat) (cls : List (Int × Int)) : Prop where
  len : cls.length ≤ cap
  cap : cap ≤ maxLen
  cells : CCells w a cls

theorem CRow.below {w w' : World} {a : Option Addr} {cap : Nat} {cls : List (Int × Int)} (h : CRow w a cap cls) (hb : Below w.heap.size w w') : CRow w' a cap cls :=
  ⟨h.len, h.cap, fun h0 => by
    obtain ⟨g, off, ha, hg, hc⟩ := h.cells h0
    exact ⟨g, off, ha, Nat.lt_of_lt_of_le hg hb.size, fun i hi => ⟨by rw [hb.cell (p := ⟨g, off + i * 2, none⟩) hg]; exact (hc i hi).1, by rw [hb.cell (p := ⟨g, off + i * 2 + 1, none⟩) hg]; exact (hc i hi).2⟩⟩⟩

theorem CRow.of_row {w : World} {v : Value} {cls : List (Int × Int)} (h : w.ownsRow 0 84 2 v cls.length (cls.flatMap clsCells)) :
    ∃ a cap, v = .slice a cls.length cap ∧ CRow w a cap cls := by
  obtain ⟨a, cap, rfl, h1, h2, h3⟩ := row_open h
  refine ⟨a, cap, rfl, h1, h2, fun h0 => ?_⟩
  obtain ⟨g, ha, hg, hc, _⟩ := h3 h0
  refine ⟨g, 0, ha, hg, fun i hi => ?_⟩
  have := cls_cells hc i hi
  simp only [Nat.zero_add]
  exact this
end Go.Proofs.YtjikemhmnkckcabGreat
namespace Go.Proofs.YtjikemhmnkckcabGreat
open Go.RowKit

set_option maxHeartbeats 400000 in
theorem begin_any (st rest : Int) (a : Option Addr) (cap : Nat) (cls : List (Int × Int)) (k s : Int) (w : World) (hv : Cf.Valid st rest cls) (h : CRow w a cap cls) (k0 : 0 ≤ k) (k1 : k < cls.length) (s0 : 0 ≤ s) (s1 : s ≤ 16) :
    Calls Tryz.prog 89 #[.agg #[.int .i64 st, .int .i64 rest, .slice a cls.length cap], .int .i64 k, .int .i64 s] w fun e w' => e = .returned (.int .i64 (Cf.begin_ st cls k.toNat s)) ∧ Below w.heap.size w w' := by
  obtain ⟨k, rfl⟩ := Int.eq_ofNat_of_zero_le k0
  rw [Int.toNat_natCast]
  obtain ⟨g, off, rfl, hgl, hcell⟩ := h.cells hv.n0
  have hlen := h.len
  have hcap := h.cap
  have b0 := hv.st0
  have b1 := hv.st1
  have n1 := hv.n1
  unfold maxLen at hcap
  have HV : Hid (Cf.Valid st rest cls) := hv
  have HC : Hid (∀ i, i < cls.length → w.cell? ⟨g, off + i * 2, none⟩ = some (.int .i64 (Cf.gr cls i)) ∧ w.cell? ⟨g, off + i * 2 + 1, none⟩ = some (.int .i64 (Cf.sl cls i))) := hcell
  clear hv h hcell
  go_enter Tryz.func89, Tryz.ntmps89
  go_wp2
  go_loopw [7, 8] (fun x i wr => ∃ m : Nat, m ≤ k ∧ i = .int .i64 (m : Int) ∧ x = .int .i64 (Cf.gran st cls m) ∧ Below w.heap.size w wr ∧ wr.cell? ⟨w.heap.size, 2, none⟩ = some (.slice (some ⟨g, off, none⟩) cls.length cap)) (fun _ i _ => k - (intOf i).toNat)
  case atStart => exact ⟨0, by omega, rfl, by simp [Cf.gran], (Below.refl _ _).alloc (Nat.le_refl _) _, by simp⟩
  case round =>
    obtain ⟨m, hm, rfl, rfl, hb, cc⟩ := hrel
    have gb := Cf.gran_bd HV.out m (by omega)
    by_cases hlt : m < k
    · obtain ⟨d0, d1⟩ := HC.out m (by omega)
      have d0' := (hb.cell (p := ⟨g, off + m * 2, none⟩) hgl).trans d0
      have d1' := (hb.cell (p := ⟨g, off + m * 2 + 1, none⟩) hgl).trans d1
      have pb := Cf.prod_bd (by have := HV.out.s0 m (by omega); omega) (HV.out.s1 m (by omega)) (by have := HV.out.g0 m (by omega); omega) (HV.out.g1 m (by omega))
      have hg : Hid (Cf.gran st cls (m + 1) = Cf.gran st cls m + Cf.sl cls m * Cf.gr cls m + 1) := rfl
      generalize Cf.gr cls m = x at *
      generalize Cf.sl cls m = y at *
      clear d0 d1
      go_wp2
      go_quiet (fail)
      go_wp2
      go_roundw
      case rel => exact ⟨m + 1, by omega, by go_num, by rw [hg.out], below_drewN hb _, cc⟩
      case measure => simp [intOf]; omega
    · obtain rfl : m = k := by omega
      obtain ⟨d0, d1⟩ := HC.out m (by omega)
      have d0' := (hb.cell (p := ⟨g, off + m * 2, none⟩) hgl).trans d0
      have pb := Cf.prod_bd s0 s1 (by have := HV.out.g0 m (by omega); omega) (HV.out.g1 m (by omega))
      have hbe : Hid (Cf.begin_ st cls m s = 16 * (Cf.gran st cls m + s * Cf.gr cls m)) := rfl
      generalize Cf.gr cls m = x at *
      clear d0 d1
      go_wp2
      go_ret
      exact ⟨ret_int (by rw [hbe.out]), hb⟩

/-- class i, as granuleref.Valid looks at it -/
theorem entry_no {cls : List (Int × Int)} {st rest : Int} {m : Nat} (hm : m < cls.length) (h : Cf.entryB cls m = false) : Cf.validB st rest cls = false := by
  simp [Cf.validB, Cf.allTo_false _ hm h]

set_option maxHeartbeats 1000000 in
theorem valid_any (st rest : Int) (a : Option Addr) (cap : Nat) (cls : List (Int × Int)) (w : World) (h : CRow w a cap cls) :
    Calls Tryz.prog 32 #[.agg #[.int .i64 st, .int .i64 rest, .slice a cls.length cap]] w fun e w' => e = .returned (.bool (Cf.validB st rest cls)) ∧ Below w.heap.size w w' := by
  have hlen := h.len
  have hcap := h.cap
  unfold maxLen at hcap
  have HC : Hid (CCells w a cls) := h.cells
  clear h
  cases hh : Cf.headB st rest
  · have hvb : Hid (Cf.validB st rest cls = false) := by show _ = _; simp [Cf.validB, hh]
    have hno : st < 0 ∨ 16 < st ∨ rest < 0 ∨ 16 < rest := by
      by_cases h1 : 0 ≤ st <;> by_cases h2 : st ≤ 16 <;> by_cases h3 : 0 ≤ rest <;> by_cases h4 : rest ≤ 16 <;> simp [Cf.headB, h1, h2, h3, h4] at hh <;> omega
    clear hh
    go_enter Tryz.func32, Tryz.ntmps32
    go_wp2
    all_goals
      go_ret
      exact ⟨ret_bool hvb.out.symm, (Below.refl _ _).alloc (Nat.le_refl _) _⟩
  · have hyes : 0 ≤ st ∧ st ≤ 16 ∧ 0 ≤ rest ∧ rest ≤ 16 := by
      simp only [Cf.headB, Bool.and_eq_true, decide_eq_true_eq] at hh; omega
    obtain ⟨y1, y2, y3, y4⟩ := hyes
    have hvb : Hid (Cf.validB st rest cls = (Cf.allTo (Cf.entryB cls) cls.length && decide (0 < cls.length))) := by show _ = _; simp [Cf.validB, hh]
    clear hh
    go_enter Tryz.func32, Tryz.ntmps32
    go_wp2
    go_loopw [3] (fun i wr => ∃ m : Nat, m ≤ cls.length ∧ i = .int .i64 (m : Int) ∧ Hid (Cf.allTo (Cf.entryB cls) m = true) ∧ Below w.heap.size w wr ∧ w.heap.size < wr.heap.size ∧ wr.cell? ⟨w.heap.size, 2, none⟩ = some (.slice a cls.length cap)) (fun i _ => cls.length - (intOf i).toNat)
    case atStart => exact ⟨0, by omega, rfl, rfl, (Below.refl _ _).alloc (Nat.le_refl _) _, by simp, by simp⟩
    case round =>
      obtain ⟨m, hm, rfl, hall, hb, hsz, cc⟩ := hrel
      by_cases hlt : m < cls.length
      · obtain ⟨g, off, rfl, hgl, hcell⟩ := HC.out (by omega)
        obtain ⟨d0, d1⟩ := hcell m hlt
        have d0' := (hb.cell (p := ⟨g, off + m * 2, none⟩) hgl).trans d0
        have d1' := (hb.cell (p := ⟨g, off + m * 2 + 1, none⟩) hgl).trans d1
        have hent : Hid (Cf.entryB cls m = (decide (m < 4) && decide (1 ≤ Cf.gr cls m) && decide (Cf.gr cls m ≤ 8) && decide (1 ≤ Cf.sl cls m) && decide (Cf.sl cls m ≤ 16) && Cf.allTo (fun j => decide (Cf.gr cls j < Cf.gr cls m)) m)) := rfl
        have HG : Hid (∀ n, n < m → w.cell? ⟨g, off + n * 2, none⟩ = some (.int .i64 (Cf.gr cls n))) := fun n hn => (hcell n (by omega)).1
        clear HC d0 d1 hcell
        by_cases hq : m < 4 ∧ 1 ≤ Cf.gr cls m ∧ Cf.gr cls m ≤ 8 ∧ 1 ≤ Cf.sl cls m ∧ Cf.sl cls m ≤ 16
        · obtain ⟨q1, q2, q3, q4, q5⟩ := hq
          have hent2 : Hid (Cf.entryB cls m = Cf.allTo (fun j => decide (Cf.gr cls j < Cf.gr cls m)) m) := by show _ = _; rw [hent.out]; simp [q1, q2, q3, q4, q5]
          clear hent
          generalize Cf.gr cls m = x at *
          generalize Cf.sl cls m = y at *
          go_wp2
          go_loopw [5] (fun j wr2 => ∃ n : Nat, n ≤ m ∧ j = .int .i64 (n : Int) ∧ Hid (Cf.allTo (fun j => decide (Cf.gr cls j < x)) n = true) ∧ Below w.heap.size w wr2 ∧ w.heap.size < wr2.heap.size ∧ wr2.cell? ⟨w.heap.size, 2, none⟩ = some (.slice (some ⟨g, off, none⟩) cls.length cap) ∧ wr2.cell? ⟨wr.heap.size, 0, none⟩ = some (.int .i64 x)) (fun j _ => m - (intOf j).toNat)
          case atStart => exact ⟨0, by omega, rfl, rfl, hb.alloc hb.size _, by rw [World.size_alloc]; omega, by rw [World.cell?_alloc_lt _ _ _ hsz]; exact cc, by simp⟩
          case round =>
            obtain ⟨n, hn, rfl, hal2, hb2, hsz2, cc2, cx2⟩ := hrel
            clear cc d0' d1' hb hsz
            by_cases hlt2 : n < m
            · have e0 := (hb2.cell (p := ⟨g, off + n * 2, none⟩) hgl).trans (HG.out n hlt2)
              have hnx : Hid (Cf.allTo (fun j => decide (Cf.gr cls j < x)) (n + 1) = (Cf.allTo (fun j => decide (Cf.gr cls j < x)) n && decide (Cf.gr cls n < x))) := rfl
              have hfl : Hid (decide (Cf.gr cls n < x) = false → Cf.validB st rest cls = false) := fun hf => entry_no hlt (by rw [hent2.out]; exact Cf.allTo_false _ hlt2 hf)
              have i0 : (n : Int) < cls.length := by omega
              generalize Cf.gr cls n = z at *
              by_cases hz : z < x
              · go_wp2
                go_quiet (fail)
                go_wp2
                go_roundw
                case rel => exact ⟨n + 1, by omega, by go_num, hnx.out.trans (by rw [hal2.out]; simp [hz]), below_drewN hb2 _, hsz2, cc2, cx2⟩
                case measure => simp [intOf]; omega
              · go_wp2
                go_quiet (fail)
                go_wp2
                go_ret
                exact ⟨ret_bool (hfl.out (by simp; omega)).symm, below_drewN hb2 _⟩
            · obtain rfl : n = m := by omega
              go_wp2
              go_roundw
              case rel => exact ⟨n + 1, by omega, by go_num, by show (_ && _) = true; rw [hall.out, hent2.out, hal2.out]; rfl, hb2, hsz2, cc2⟩
              case measure => simp [intOf]; omega
        · have hfalse : Hid (Cf.validB st rest cls = false) := by
            refine entry_no hlt ?_
            rw [hent.out]
            simp only [Bool.and_eq_false_iff, decide_eq_false_iff_not]
            omega
          clear hent
          generalize Cf.gr cls m = x at *
          generalize Cf.sl cls m = y at *
          go_wp2
          all_goals
            go_ret
            exact ⟨ret_bool hfalse.out.symm, hb.alloc hb.size _⟩
      · obtain rfl : m = cls.length := by omega
        go_wp2
        go_ret
        exact ⟨ret_bool (by rw [hvb.out, hall.out, Bool.true_and]), hb⟩
end Go.Proofs.YtjikemhmnkckcabGreat
