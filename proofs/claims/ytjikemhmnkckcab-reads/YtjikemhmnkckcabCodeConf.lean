import Derived.Test.YtjikemhmnkckcabConfWalks2
/- The program's own look at a configuration. -/
namespace Go.Proofs.Ytjikemhmnkckcab
open Go.RowKit
theorem hide2 {p : Prop} (h : p) : Hid p := h

def withinB (n lo hi : Int) : Bool := decide (lo ≤ n) && decide (n ≤ hi)

set_option maxHeartbeats 400000 in
theorem within_any (n lo hi : Int) (w : World) :
    Calls Try.prog 42 #[.int .i64 n, .int .i64 lo, .int .i64 hi] w fun e w' => e = .returned (.bool (withinB n lo hi)) ∧ w' = w := by
  go_enter Try.func42, Try.ntmps42
  go_wp2
  all_goals
    go_ret
    refine ⟨ret_bool ?_, rfl⟩
    first | (simp [withinB, *]; done) | (simp [withinB, *]; omega)

namespace Cf
/-- the program's look at class i -/
def entryC (cls : List (Int × Int)) (i : Nat) : Bool := withinB (gr cls i) ((if i = 0 then 0 else gr cls (i - 1)) + 1) 8 && withinB (sl cls i) 1 16
def classesC (cls : List (Int × Int)) : Bool := withinB cls.length 1 4 && allTo (entryC cls) cls.length

theorem classes_eq (st rest : Int) (cls : List (Int × Int)) : validB st rest cls = (headB st rest && classesC cls) := by
  unfold validB
  congr 1
  rw [Bool.eq_iff_iff]
  simp only [classesC, Bool.and_eq_true, allTo_iff, decide_eq_true_eq, withinB]
  constructor
  · rintro ⟨h1, h2⟩
    have he : ∀ i, i < cls.length → i < 4 ∧ 1 ≤ gr cls i ∧ gr cls i ≤ 8 ∧ 1 ≤ sl cls i ∧ sl cls i ≤ 16 ∧ ∀ j, j < i → gr cls j < gr cls i := fun i hi => by
      have := h1 i hi
      simp only [entryB, Bool.and_eq_true, decide_eq_true_eq, allTo_iff] at this
      obtain ⟨⟨⟨⟨⟨a, b⟩, c⟩, d⟩, e⟩, f⟩ := this
      exact ⟨a, b, c, d, e, f⟩
    refine ⟨⟨by omega, ?_⟩, fun i hi => ?_⟩
    · have := (he (cls.length - 1) (by omega)).1; omega
    · obtain ⟨a, b, c, d, e, f⟩ := he i hi
      simp only [entryC, withinB, Bool.and_eq_true, decide_eq_true_eq]
      refine ⟨⟨?_, c⟩, d, e⟩
      by_cases h0 : i = 0
      · rw [if_pos h0]; omega
      · rw [if_neg h0]; have := f (i - 1) (by omega); omega
  · rintro ⟨⟨h1, h2⟩, h3⟩
    have he : ∀ i, i < cls.length → (if i = 0 then 0 else gr cls (i - 1)) + 1 ≤ gr cls i ∧ gr cls i ≤ 8 ∧ 1 ≤ sl cls i ∧ sl cls i ≤ 16 := fun i hi => by
      have := h3 i hi
      simp only [entryC, withinB, Bool.and_eq_true, decide_eq_true_eq] at this
      exact ⟨this.1.1, this.1.2, this.2.1, this.2.2⟩
    have hup : ∀ i, i < cls.length → 1 ≤ gr cls i ∧ ∀ j, j < i → gr cls j < gr cls i := by
      intro i
      induction i with
      | zero => intro hi; have := (he 0 hi).1; simp at this; exact ⟨this, fun j hj => by omega⟩
      | succ i ih =>
        intro hi
        obtain ⟨a, b⟩ := ih (by omega)
        have := (he (i + 1) hi).1
        rw [if_neg (by omega), show i + 1 - 1 = i by omega] at this
        refine ⟨by omega, fun j hj => ?_⟩
        by_cases e : j = i
        · subst e; omega
        · have := b j (by omega); omega
    refine ⟨fun i hi => ?_, by omega⟩
    simp only [entryB, Bool.and_eq_true, decide_eq_true_eq, allTo_iff]
    exact ⟨⟨⟨⟨⟨by omega, (hup i hi).1⟩, (he i hi).2.1⟩, (he i hi).2.2.1⟩, (he i hi).2.2.2⟩, (hup i hi).2⟩
end Cf

set_option maxHeartbeats 1000000 in
theorem classes_any (a : Option Addr) (cap : Nat) (cls : List (Int × Int)) (w : World) (h : CRow w a cap cls) :
    Calls Try.prog 49 #[.slice a cls.length cap] w fun e w' => e = .returned (.bool (Cf.classesC cls)) ∧ w' = w := by
  have hlen := h.len
  have hcap := h.cap
  unfold maxLen at hcap
  have HC : Hid (CCells w a cls) := h.cells
  clear h
  cases hw : withinB cls.length 1 4
  · have hfin : Hid (Cf.classesC cls = false) := by show _ = _; simp [Cf.classesC, hw]
    have HW : Hid (withinB cls.length 1 4 = false) := hw
    clear hw
    go_enter Try.func49, Try.ntmps49
    go_wp2_with (go_at_call 42; refine (within_any _ _ _ _).mono ?_; rw [HW.out]; rintro e1 w1 ⟨rfl, rfl⟩)
    go_ret
    exact ⟨ret_bool hfin.out.symm, rfl⟩
  · have hb : 1 ≤ (cls.length : Int) ∧ (cls.length : Int) ≤ 4 := by simpa [withinB] using hw
    have hfin : Hid (Cf.classesC cls = Cf.allTo (Cf.entryC cls) cls.length) := by show _ = _; simp [Cf.classesC, hw]
    have HW : Hid (withinB cls.length 1 4 = true) := hw
    obtain ⟨b1, b2⟩ := hb
    clear hw
    obtain ⟨g, off, rfl, hgl, hcell⟩ := HC.out (by omega)
    have HCL : Hid (∀ i, i < cls.length → w.cell? ⟨g, off + i * 2, none⟩ = some (.int .i64 (Cf.gr cls i)) ∧ w.cell? ⟨g, off + i * 2 + 1, none⟩ = some (.int .i64 (Cf.sl cls i))) := hcell
    clear hcell HC
    go_enter Try.func49, Try.ntmps49
    go_wp2_with (go_at_call 42; refine (within_any _ _ _ _).mono ?_; rw [HW.out]; rintro e1 w1 ⟨rfl, rfl⟩)
    go_loop [3, 4] (fun h i => ∃ (m : Nat) (x : Int), m ≤ cls.length ∧ i = .int .i64 (m : Int) ∧ h = .int .i64 x ∧ x ≤ 8 ∧ 0 ≤ x ∧ Hid (x = if m = 0 then 0 else Cf.gr cls (m - 1)) ∧ Hid (Cf.allTo (Cf.entryC cls) m = true)) (fun _ i => cls.length - (intOf i).toNat)
    case atStart => exact ⟨0, 0, by omega, rfl, rfl, by omega, by omega, rfl, rfl⟩
    case round =>
      obtain ⟨m, x, hm, rfl, rfl, x8, x0, hx, hall⟩ := hrel
      by_cases hlt : m < cls.length
      · obtain ⟨d0, d1⟩ := HCL.out m hlt
        have hent : Hid (Cf.entryC cls m = (withinB (Cf.gr cls m) (x + 1) 8 && withinB (Cf.sl cls m) 1 16)) := by show _ = _; rw [hx.out]; rfl
        have hno : Hid (Cf.entryC cls m = false → Cf.classesC cls = false) := fun h => by rw [hfin.out]; exact Cf.allTo_false _ hlt h
        have hxt : Hid (Cf.gr cls m = if m + 1 = 0 then 0 else Cf.gr cls (m + 1 - 1)) := by show _ = _; rw [if_neg (by omega)]; rfl
        cases h1 : withinB (Cf.gr cls m) (x + 1) 8
        · have H1 : Hid (withinB (Cf.gr cls m) (x + 1) 8 = false) := h1
          have hff : Hid (Cf.classesC cls = false) := hno.out (by rw [hent.out, h1]; rfl)
          clear h1 hent hno hxt
          go_wp2_with (go_at_call 42; refine (within_any _ _ _ _).mono ?_; rw [H1.out]; rintro e1 w1 ⟨rfl, rfl⟩)
          go_ret
          exact ⟨ret_bool hff.out.symm, rfl⟩
        · have hxb : x + 1 ≤ Cf.gr cls m ∧ Cf.gr cls m ≤ 8 := by simpa [withinB] using h1
          have H1 : Hid (withinB (Cf.gr cls m) (x + 1) 8 = true) := h1
          cases h2 : withinB (Cf.sl cls m) 1 16
          · have H2 : Hid (withinB (Cf.sl cls m) 1 16 = false) := h2
            have hff : Hid (Cf.classesC cls = false) := hno.out (by rw [hent.out, h1, h2]; rfl)
            clear h1 h2 hent hno hxt
            go_wp2_with fail
            refine (within_any _ _ _ _).mono ?_; rw [H1.out]; rintro e1 w1 ⟨rfl, rfl⟩
            go_wp2_with fail
            refine (within_any _ _ _ _).mono ?_; rw [H2.out]; rintro e1 w1 ⟨rfl, rfl⟩
            go_wp2
            go_ret
            exact ⟨ret_bool hff.out.symm, rfl⟩
          · have H2 : Hid (withinB (Cf.sl cls m) 1 16 = true) := h2
            have hall2 : Hid (Cf.allTo (Cf.entryC cls) (m + 1) = true) := by show (_ && _) = true; rw [hall.out, hent.out, h1, h2]; rfl
            clear h1 h2 hent hno
            go_wp2_with fail
            refine (within_any _ _ _ _).mono ?_; rw [H1.out]; rintro e1 w1 ⟨rfl, rfl⟩
            go_wp2_with fail
            refine (within_any _ _ _ _).mono ?_; rw [H2.out]; rintro e1 w1 ⟨rfl, rfl⟩
            go_wp2
            go_round
            case rel => exact ⟨m + 1, Cf.gr cls m, by omega, by go_num, rfl, by omega, by omega, hxt, hall2⟩
            case measure => simp [intOf]; omega
      · obtain rfl : m = cls.length := by omega
        go_wp2
        go_ret
        exact ⟨ret_bool (by rw [hfin.out, hall.out]), rfl⟩

set_option maxHeartbeats 1000000 in
theorem validConf_any (st rest : Int) (a : Option Addr) (cap : Nat) (cls : List (Int × Int)) (w : World) (h : CRow w a cap cls) :
    Calls Try.prog 41 #[.agg #[.int .i64 st, .int .i64 rest, .slice a cls.length cap]] w fun e w' => e = .returned (.bool (Cf.validB st rest cls)) ∧ Below w.heap.size w w' := by
  have HV : Hid (Cf.validB st rest cls = (withinB st 0 16 && withinB rest 0 16 && Cf.classesC cls)) := by
    show _ = _
    rw [Cf.classes_eq]; simp [Cf.headB, withinB, Bool.and_assoc]
  have HC : Hid (CRow w a cap cls) := h
  clear h
  cases h1 : withinB st 0 16
  · have H1 : Hid (withinB st 0 16 = false) := h1
    have hff : Hid (Cf.validB st rest cls = false) := by show _ = _; rw [HV.out, h1]; rfl
    clear h1
    go_enter Try.func41, Try.ntmps41
    go_wp2_with (go_at_call 42; refine (within_any _ _ _ _).mono ?_; rw [H1.out]; rintro e1 w1 ⟨rfl, rfl⟩)
    go_ret
    exact ⟨ret_bool hff.out.symm, (Below.refl _ _).alloc (Nat.le_refl _) _⟩
  · cases h2 : withinB rest 0 16
    · have H1 : Hid (withinB st 0 16 = true) := h1
      have H2 : Hid (withinB rest 0 16 = false) := h2
      have hff : Hid (Cf.validB st rest cls = false) := by show _ = _; rw [HV.out, h1, h2]; rfl
      clear h1 h2
      go_enter Try.func41, Try.ntmps41
      go_wp2_with fail
      refine (within_any _ _ _ _).mono ?_; rw [H1.out]; rintro e1 w1 ⟨rfl, rfl⟩
      go_wp2_with fail
      refine (within_any _ _ _ _).mono ?_; rw [H2.out]; rintro e1 w1 ⟨rfl, rfl⟩
      go_wp2
      go_ret
      exact ⟨ret_bool hff.out.symm, (Below.refl _ _).alloc (Nat.le_refl _) _⟩
    · have H1 : Hid (withinB st 0 16 = true) := h1
      have H2 : Hid (withinB rest 0 16 = true) := h2
      have hff : Hid (Cf.validB st rest cls = Cf.classesC cls) := by show _ = _; rw [HV.out, h1, h2]; rfl
      clear h1 h2
      go_enter Try.func41, Try.ntmps41
      go_wp2_with fail
      refine (within_any _ _ _ _).mono ?_; rw [H1.out]; rintro e1 w1 ⟨rfl, rfl⟩
      go_wp2_with fail
      refine (within_any _ _ _ _).mono ?_; rw [H2.out]; rintro e1 w1 ⟨rfl, rfl⟩
      go_wp2_with (go_at_call 49; refine (classes_any _ cap cls _ (HC.out.below ((Below.refl _ _).alloc (Nat.le_refl _) _))).mono ?_; rintro e1 w1 ⟨rfl, rfl⟩)
      go_ret
      exact ⟨ret_bool hff.out.symm, (Below.refl _ _).alloc (Nat.le_refl _) _⟩
end Go.Proofs.Ytjikemhmnkckcab
