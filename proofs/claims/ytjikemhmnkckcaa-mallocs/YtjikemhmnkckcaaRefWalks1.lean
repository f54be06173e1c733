import Derived.Test.YtjikemhmnkckcaaRefRep
import Derived.Test.YtjikemhmnkckcaaPickWalks
namespace Go.Proofs.Ytjikemhmnkckcaa
open Go.RowKit

set_option maxHeartbeats 400000 in
theorem given_any (p : Nat) (vc vl vm : Value) (R : RSt) (k s : Int) (w : World) (h : RRep w p vc vl vm R) :
    Calls Try.prog 46 #[.pointer (some ⟨p, 0, none⟩), .int .i64 k, .int .i64 s] w fun e w' => e = .returned (.int .i64 (Ref.given R.log k s)) ∧ Below w.heap.size w w' := by
  have c3 := h.blk.cell (j := 3) rfl
  have hp := h.blk.lt
  obtain ⟨a, cap, rfl, hcap, hmax, hrow⟩ := row_open h.log
  unfold maxLen at hmax
  have HR : Hid (0 < R.log.length → ∃ g, a = some ⟨g, 0, none⟩ ∧ g < w.heap.size ∧ (∀ j u, (R.log.flatMap evCells)[j]? = some u → w.cell? ⟨g, j, none⟩ = some u) ∧ (∀ j, w.frozen? ⟨g, j, none⟩ = false)) := hrow
  clear hrow h
  go_enter Try.func46, Try.ntmps46
  go_wp2
  go_loopw [7] (fun i wr => ∃ m : Nat, m ≤ R.log.length ∧ i = .int .i64 ((m : Int) - 1) ∧ Hid (Ref.given R.log k s = Ref.givenTo R.log k s m) ∧ Below w.heap.size w wr) (fun i _ => (intOf i + 1).toNat)
  case atStart => exact ⟨_, Nat.le_refl _, rfl, rfl, Below.refl _ _⟩
  case round =>
    obtain ⟨m, hm, rfl, hg, hb⟩ := hrel
    cases m with
    | zero =>
      go_wp2
      go_ret
      exact ⟨ret_int hg.out.symm, hb⟩
    | succ i =>
      obtain ⟨g, rfl, hgl, hcell, hfr⟩ := HR.out (by omega)
      have e1 : ((i + 1 : Nat) : Int) - 1 = (i : Int) := by omega
      rw [e1]
      have hc : ∀ j u, (R.log.flatMap evCells)[j]? = some u → wr.cell? ⟨g, j, none⟩ = some u := fun j u hu => by rw [hb.cell (p := ⟨g, j, none⟩) hgl]; exact hcell j u hu
      obtain ⟨d0, d1, d2, d3, d4, d5⟩ := ev_cells hc i (by omega)
      have c3' : wr.cell? ⟨p, 3, none⟩ = some (.slice (some ⟨g, 0, none⟩) R.log.length cap) := by rw [hb.cell (p := ⟨p, 3, none⟩) hp]; exact c3
      have hst : Hid (Ref.givenTo R.log k s (i + 1) = if (R.log.getD i Ref.Ev.no).gives k s then (i : Int) else Ref.givenTo R.log k s i) := rfl
      generalize R.log.getD i Ref.Ev.no = ev at *
      clear hcell hfr hc
      clear HR c3 e1
      go_wp2
      case roundEnd => 
        go_roundw
        case rel => exact ⟨i, by omega, rfl, hg.out.trans (hst.out.trans (if_neg (by simp [Ref.Ev.gives, *]))), hb.alloc hb.size _⟩
        case measure => simp [intOf]
      case roundEnd => 
        go_roundw
        case rel => exact ⟨i, by omega, rfl, hg.out.trans (hst.out.trans (if_neg (by simp [Ref.Ev.gives, *]))), hb.alloc hb.size _⟩
        case measure => simp [intOf]
      case roundEnd => 
        go_roundw
        case rel => exact ⟨i, by omega, rfl, hg.out.trans (hst.out.trans (if_neg (by simp [Ref.Ev.gives, *]))), hb.alloc hb.size _⟩
        case measure => simp [intOf]
      go_ret
      exact ⟨ret_int (hg.out.trans (hst.out.trans (if_pos (by simp [Ref.Ev.gives, *])))).symm, hb.alloc hb.size _⟩

set_option maxHeartbeats 400000 in
theorem gone_any (p : Nat) (vc vl vm : Value) (R : RSt) (k s : Int) (w : World) (h : RRep w p vc vl vm R) :
    Calls Try.prog 80 #[.pointer (some ⟨p, 0, none⟩), .int .i64 k, .int .i64 s] w fun e w' => e = .returned (.int .i64 (Ref.gone R.log k s)) ∧ Below w.heap.size w w' := by
  have c3 := h.blk.cell (j := 3) rfl
  have hp := h.blk.lt
  have hh : Hid (RRep w p vc vl vm R) := h
  obtain ⟨a, cap, rfl, hcap, hmax, hrow⟩ := row_open h.log
  unfold maxLen at hmax
  have HR : Hid (0 < R.log.length → ∃ g, a = some ⟨g, 0, none⟩ ∧ g < w.heap.size ∧ (∀ j u, (R.log.flatMap evCells)[j]? = some u → w.cell? ⟨g, j, none⟩ = some u) ∧ (∀ j, w.frozen? ⟨g, j, none⟩ = false)) := hrow
  have g1 := Ref.given_lo R.log k s
  have g2 := Ref.given_hi R.log k s
  clear hrow h
  go_enter Try.func80, Try.ntmps80
  go_wp2_with (go_at_call 46; refine (given_any _ _ _ _ _ _ _ _ hh.out).mono ?_; rintro e w1 ⟨rfl, hb1⟩)
  have c3' : w1.cell? ⟨p, 3, none⟩ = some (.slice a R.log.length cap) := by rw [hb1.cell (p := ⟨p, 3, none⟩) hp]; exact c3
  go_loopw [8] (fun i wr => ∃ m f : Nat, m + f = R.log.length ∧ i = .int .i64 (m : Int) ∧ Hid (Ref.gone R.log k s = Ref.firstFrom (fun i => (R.log.getD i Ref.Ev.no).takes k s) f m) ∧ Below w.heap.size w wr) (fun i _ => R.log.length - (intOf i).toNat)
  case atStart => exact ⟨(Ref.given R.log k s + 1).toNat, R.log.length - (Ref.given R.log k s + 1).toNat, by omega, by rw [Int.toNat_of_nonneg (by omega)], rfl, hb1⟩
  case round =>
    obtain ⟨m, f, hm, rfl, hg, hb⟩ := hrel
    have c3' : wr.cell? ⟨p, 3, none⟩ = some (.slice a R.log.length cap) := by rw [hb.cell (p := ⟨p, 3, none⟩) hp]; exact c3
    cases f with
    | zero =>
      have hm' : ¬ (m : Int) < R.log.length := by omega
      clear hm
      go_wp2
      go_ret
      exact ⟨ret_int hg.out.symm, hb⟩
    | succ f =>
      have hlt : m < R.log.length := by omega
      obtain ⟨g, rfl, hgl, hcell, hfr⟩ := HR.out (by omega)
      have hc : ∀ j u, (R.log.flatMap evCells)[j]? = some u → wr.cell? ⟨g, j, none⟩ = some u := fun j u hu => by rw [hb.cell (p := ⟨g, j, none⟩) hgl]; exact hcell j u hu
      obtain ⟨d0, d1, d2, d3, d4, d5⟩ := ev_cells hc m (by omega)
      have hst : Hid (Ref.firstFrom (fun i => (R.log.getD i Ref.Ev.no).takes k s) (f + 1) m = if (R.log.getD m Ref.Ev.no).takes k s then (m : Int) else Ref.firstFrom (fun i => (R.log.getD i Ref.Ev.no).takes k s) f (m + 1)) := rfl
      have hm2 : Hid (m + (f + 1) = R.log.length) := hm
      generalize R.log.getD m Ref.Ev.no = ev at *
      clear hcell hfr hc HR c3 hm
      go_wp2
      case roundEnd => 
        go_roundw
        case rel => exact ⟨m + 1, f, by have := hm2.out; omega, by go_num, hg.out.trans (hst.out.trans (if_neg (by simp [Ref.Ev.takes, *]))), hb.alloc hb.size _⟩
        case measure => simp [intOf]; omega
      case roundEnd => 
        go_roundw
        case rel => exact ⟨m + 1, f, by have := hm2.out; omega, by go_num, hg.out.trans (hst.out.trans (if_neg (by simp [Ref.Ev.takes, *]))), hb.alloc hb.size _⟩
        case measure => simp [intOf]; omega
      case roundEnd => 
        go_roundw
        case rel => exact ⟨m + 1, f, by have := hm2.out; omega, by go_num, hg.out.trans (hst.out.trans (if_neg (by simp [Ref.Ev.takes, *]))), hb.alloc hb.size _⟩
        case measure => simp [intOf]; omega
      go_ret
      exact ⟨ret_int (hg.out.trans (hst.out.trans (if_pos (by simp [Ref.Ev.takes, *])))).symm, hb.alloc hb.size _⟩

end Go.Proofs.Ytjikemhmnkckcaa
