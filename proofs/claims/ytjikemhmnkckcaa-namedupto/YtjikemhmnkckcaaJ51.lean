import Derived.Test.YtjikemhmnkckcaaJ50
import Derived.Deep.QuietTactic
import Derived.BigQuiet
import Derived.Deep.Cut
import Derived.Test.YtjikemhmnkckcaaJ39
import Derived.Test.YtjikemhmnkckcaaJ26
/- Named: a report that names a block. -/
namespace Go.Proofs.Ytjikemhmnkckcaa
open Go.RowKit
attribute [local go_sem ↓] Go.wp_at_zero Go.wp_at_succ

def nearNo : Int × Int × Int := (0, 0, 0)
theorem near_cells {w : World} {g : Nat} {l : List (Int × Int × Int)} (hc : ∀ j u, (l.flatMap nearCells)[j]? = some u → w.cell? ⟨g, j, none⟩ = some u) (i : Nat) (hi : i < l.length) :
    w.cell? ⟨g, i * 3, none⟩ = some (.int .i64 (l.getD i nearNo).1) ∧ w.cell? ⟨g, i * 3 + 1, none⟩ = some (.int .i64 (l.getD i nearNo).2.1) ∧ w.cell? ⟨g, i * 3 + 2, none⟩ = some (.int .i64 (l.getD i nearNo).2.2) := by
  have h6 : ∀ j, j < 3 → (l.flatMap nearCells)[i * 3 + j]? = (nearCells (l.getD i nearNo))[j]? := fun j hj => by
    rw [flat_get nearCells 3 (fun _ => rfl) l i j hj, List.getElem?_eq_getElem hi]
    simp [List.getD_eq_getElem?_getD, List.getElem?_eq_getElem hi]
  have hx := fun j (hj : j < 3) u hu => hc (i * 3 + j) u (by rw [h6 j hj]; exact hu)
  exact ⟨hx 0 (by omega) _ rfl, hx 1 (by omega) _ rfl, hx 2 (by omega) _ rfl⟩

set_option maxRecDepth 100000 in
set_option maxHeartbeats 1600000 in
theorem knames_yes (r : Rpt) (v : Value) (wt : Int × Int × Int) (J : Nat) (w : World) (hrow : w.ownsRow 0 117 3 v r.near.length (r.near.flatMap nearCells)) (hl : r.near.length ≤ 2) (hJ : J < r.near.length) (hw : r.near.getD J nearNo = wt) :
    Calls Try.prog 74 #[rptV r v, .agg (nearCells wt).toArray] w fun e w' => e = .returned (.bool true) ∧ Below w.heap.size w w' := by
  obtain ⟨z1, z2, z3, z4, z5, z6, z7, z8, z9, near⟩ := r
  change w.ownsRow 0 117 3 v near.length (near.flatMap nearCells) at hrow
  change near.length ≤ 2 at hl
  change J < near.length at hJ
  change near.getD J nearNo = wt at hw
  obtain ⟨a, cap, rfl, hcap, hmax, hrow2⟩ := row_open hrow
  obtain ⟨g, rfl, hgl, hcell, _⟩ := hrow2 (by omega)
  unfold maxLen at hmax
  have HC := hide2 hcell
  have HW := hide2 hw
  unfold rptV rptCells nearCells
  obtain ⟨w1, w2, w3⟩ := wt
  have hnl : (near.length : Int) ≤ 2 := by omega
  clear hrow hrow2 hcell hw
  go_enter Try.func74, Try.ntmps74
  go_wp2
  go_loopw [5] (fun i wr => ∃ m : Nat, m ≤ J ∧ i = .int .i64 (m : Int) ∧ Below w.heap.size w wr ∧ Hid (Blk wr w.heap.size 64 [.int .i64 z1, .int .i64 z2, .int .i64 z3, .int .i64 z4, .int .i64 z5, .int .i64 z6, .int .i64 z7, .int .i64 z8, .int .i64 z9, .slice (some ⟨g, 0, none⟩) near.length cap]) ∧ Hid (Blk wr (w.heap.size + 1) 117 [.int .i64 w1, .int .i64 w2, .int .i64 w3])) (fun i _ => J + 1 - (intOf i).toNat)
  case atStart =>
    refine ⟨0, by omega, rfl, ((Below.refl _ _).alloc (Nat.le_refl _) _).alloc (by simp) _, ?_, ?_⟩
    · exact (Blk.alloc w _ _).below ((Below.refl _ _).alloc (Nat.le_refl _) _) (by simp)
    · have := Blk.alloc (w.alloc (.cells #[.int .i64 z1, .int .i64 z2, .int .i64 z3, .int .i64 z4, .int .i64 z5, .int .i64 z6, .int .i64 z7, .int .i64 z8, .int .i64 z9, .slice (some ⟨g, 0, none⟩) near.length cap] 64)) 117 [.int .i64 w1, .int .i64 w2, .int .i64 w3]
      rw [World.size_alloc] at this
      exact this
  case round =>
    obtain ⟨m, hm, rfl, hb, HA, HB⟩ := hrel
    have a9 := HA.out.cell (j := 9) rfl
    have b0 := HB.out.cell (j := 0) rfl
    have b1 := HB.out.cell (j := 1) rfl
    have b2 := HB.out.cell (j := 2) rfl
    have hal := HA.out.lt
    have hbl := HB.out.lt
    have hlt : m < near.length := by omega
    have hmI : (m : Int) < (near.length : Int) := by omega
    obtain ⟨d0, d1, d2⟩ := near_cells HC.out m hlt
    have d0' := (hb.cell (p := ⟨g, m * 3, none⟩) hgl).trans d0
    have d1' := (hb.cell (p := ⟨g, m * 3 + 1, none⟩) hgl).trans d1
    have d2' := (hb.cell (p := ⟨g, m * 3 + 2, none⟩) hgl).trans d2
    have HWB := hide2 hb
    obtain ⟨x, hx⟩ : ∃ x, near.getD m nearNo = x := ⟨_, rfl⟩
    have HX := hide2 hx
    rw [hx] at d0' d1' d2'
    obtain ⟨x1, x2, x3⟩ := x
    clear d0 d1 d2 hb hx
    by_cases hmt : (x1, x2, x3) = (w1, w2, w3)
    · obtain ⟨rfl, rfl, rfl⟩ : x1 = w1 ∧ x2 = w2 ∧ x3 = w3 := by simpa using hmt
      clear hmt
      go_wp2_with fail
      go_quiet (fail)
      go_wp2
      go_ret
      exact ⟨by simp, below_drewN HWB.out _⟩
    · have hmJ : m < J := by
        rcases Nat.lt_or_ge m J with y | y
        · exact y
        · exfalso
          obtain rfl : m = J := by omega
          exact hmt (HX.out.symm.trans HW.out)
      by_cases c1 : x1 = w1
      · subst c1
        by_cases c2 : x2 = w2
        · subst c2
          have c3 : x3 ≠ w3 := fun y => hmt (by rw [y])
          have c3b : (x3 == w3) = false := by rw [beq_eq_false_iff_ne]; exact c3
          have c3d : decide (x3 = w3) = false := decide_eq_false c3
          clear hmt c3
          go_wp2_with fail
          go_quiet (fail)
          go_wp2
          go_roundw
          case rel => exact ⟨m + 1, by omega, by go_num, below_drewN HWB.out _, HA.out.below (below_drewN (Below.refl wr.heap.size wr) _) hal, HB.out.below (below_drewN (Below.refl wr.heap.size wr) _) hbl⟩
          case measure => simp [intOf]; omega
        · have c2b : (x2 == w2) = false := by rw [beq_eq_false_iff_ne]; exact c2
          have c2d : decide (x2 = w2) = false := decide_eq_false c2
          clear hmt c2
          go_wp2_with fail
          go_quiet (fail)
          go_wp2
          go_roundw
          case rel => exact ⟨m + 1, by omega, by go_num, below_drewN HWB.out _, HA.out.below (below_drewN (Below.refl wr.heap.size wr) _) hal, HB.out.below (below_drewN (Below.refl wr.heap.size wr) _) hbl⟩
          case measure => simp [intOf]; omega
      · have c1b : (x1 == w1) = false := by rw [beq_eq_false_iff_ne]; exact c1
        have c1d : decide (x1 = w1) = false := decide_eq_false c1
        clear hmt c1
        go_wp2_with fail
        go_quiet (fail)
        go_wp2
        go_roundw
        case rel => exact ⟨m + 1, by omega, by go_num, below_drewN HWB.out _, HA.out.below (below_drewN (Below.refl wr.heap.size wr) _) hal, HB.out.below (below_drewN (Below.refl wr.heap.size wr) _) hbl⟩
        case measure => simp [intOf]; omega
end Go.Proofs.Ytjikemhmnkckcaa
/- Stale: what a pointer of the book may touch. Plain mathematics. -/
namespace Go.Proofs.Ytjikemhmnkckcaa
open Go.RowKit

theorem access_one (R : RSt) (t a : Int) (t0 : 0 ≤ t) (t1 : t ≤ 15) (a0 : 0 ≤ a) (a1 : a ≤ 65535) : (R.access (t * 72057594037927936 + a) 1).1 = touchE (R.tag a) t := by
  have h1 : (t * 72057594037927936 + a) % 72057594037927936 = a := by omega
  have h2 : (t * 72057594037927936 + a) / 72057594037927936 = t := by omega
  have h3 : Ref.tameB (t * 72057594037927936 + a) = true := (tame_iff _).2 ⟨by omega, by omega, by omega⟩
  unfold RSt.access
  rw [if_neg (by omega), if_neg (by omega), h3, if_pos rfl, h1, h2]
  show (Ref.accFrom R.tag t a 1 0).1 = _
  simp only [Ref.accFrom]
  rw [show a + ((0 : Nat) : Int) = a by omega]
  unfold touchE
  split
  · rfl
  · split <;> rfl

theorem touchE_poison (t : Int) : touchE 15 t = 7 := by unfold touchE; rw [if_neg (by decide), if_pos (.inl rfl)]
theorem touchE_other {tg t : Int} (h0 : 1 ≤ tg) (h : tg ≠ t) : touchE tg t = 7 := by unfold touchE; rw [if_neg (by omega), if_pos (.inr h)]

/-- in a slot: refused, where the tag is not the slot's last -/
theorem slot_refused {G : GSt} {R : RSt} (hs : SimB G R) (k s : Nat) (hk : k < R.cls.length) (hsl : s < (Cf.sl R.cls k).toNat) (t : Int) (h : Ref.state R.log k s = 3 → t ≠ Ref.last R.log k s) (a : Int) (h0 : Cf.begin_ R.st R.cls k s ≤ a) (h1 : a < Cf.begin_ R.st R.cls k s + 16 * Cf.gr R.cls k) : touchE (R.tag a) t = 7 := by
  have hv := hs.sim.rok.conf
  by_cases h3 : Ref.state R.log k s = 3
  · by_cases hin : a < Cf.begin_ R.st R.cls k s + 16 * (R.log.getD (Ref.given R.log k s).toNat Ref.Ev.no).size
    · rw [tag_live hv k s hk hsl h3 a h0 hin (hs.fits.size k s (live_given h3)).2]
      exact touchE_other (hs.fits.tag k s (live_given h3)).1 (fun y => h h3 y.symm)
    · rw [tag_rest hv k s hk hsl a h0 h1 (.inr (by omega))]; exact touchE_poison _
  · rw [tag_rest hv k s hk hsl a h0 h1 (.inl h3)]; exact touchE_poison _

/-- between the classes there is no memory -/
theorem gap_tag {R : RSt} (hv : Cf.Valid R.st R.rest R.cls) (j : Nat) (hj : j ≤ R.cls.length) : R.tag (16 * (Cf.gran R.st R.cls j - 1)) = -1 := by
  have hst : ¬ (16 ≤ 16 * (Cf.gran R.st R.cls j - 1) ∧ 16 * (Cf.gran R.st R.cls j - 1) < 16 * (1 + R.st)) := by
    have h1 := Cf.gran_mono hv 0 j (by omega) hj
    have h2 : Cf.gran R.st R.cls 0 = 1 + R.st + 1 := rfl
    omega
  have hsl : Cf.slot R.st R.cls (16 * (Cf.gran R.st R.cls j - 1)) = (-1, -1) := by
    rcases Cf.slot_bd R.st R.cls (16 * (Cf.gran R.st R.cls j - 1)) with e | ⟨k, s, e, hk, hs, hin⟩
    · exact e
    · exfalso
      simp only [Cf.inS, Bool.and_eq_true, decide_eq_true_eq] at hin
      obtain ⟨h5, h6⟩ := hin
      have g0 := hv.g0 k hk
      have h4 : 0 ≤ (s : Int) * Cf.gr R.cls k := Int.mul_nonneg (by omega) (by omega)
      unfold Cf.begin_ at h5 h6
      by_cases c : k < j
      · have h1 := Cf.gran_mono hv (k + 1) j (by omega) hj
        have h2 : Cf.gran R.st R.cls (k + 1) = Cf.gran R.st R.cls k + Cf.sl R.cls k * Cf.gr R.cls k + 1 := rfl
        have h7 : ((s : Int) + 1) * Cf.gr R.cls k ≤ Cf.sl R.cls k * Cf.gr R.cls k := Int.mul_le_mul_of_nonneg_right (by omega) (by omega)
        rw [Int.add_mul, Int.one_mul] at h7
        omega
      · have h1 := Cf.gran_mono hv j k (by omega) (by omega)
        omega
  unfold RSt.tag Cf.tag
  rw [if_neg hst, hsl, if_pos (by decide)]

section
variable {B : KSt} {G : GSt} {R : RSt} {x : KBlk} {n k s : Nat} {t : Int}
theorem KHad.bd (h : KHad R x n k s t) (hs : SimB G R) : 32 ≤ Cf.begin_ R.st R.cls k s ∧ Cf.begin_ R.st R.cls k s ≤ 8640 ∧ 1 ≤ Cf.gr R.cls k ∧ Cf.gr R.cls k ≤ 8 ∧ (s : Int) < Cf.sl R.cls k := by
  have hv := hs.sim.rok.conf
  have h1 := h.hs
  have h2 := Cf.begin_bd hv k h.hk s (by omega) (by have := hv.s1 k h.hk; omega)
  have h3 := hv.g0 k h.hk
  have h4 := hv.g1 k h.hk
  omega
theorem KHad.pbd (h : KHad R x n k s t) (hs : SimB G R) : 72057594037927936 ≤ x.p ∧ x.p ≤ 1100000000000000000 := by
  have h1 := h.bd hs
  have h2 := h.p
  have h3 := h.t0
  have h4 := h.t1
  omega

/-- its own slot, but for the block itself -/
theorem KHad.own (h : KHad R x n k s t) (hs : SimB G R) (hn : n ≤ 1) (hlv : x.live = true → KLive R x k s) (g : Nat) (hg : (g : Int) < Cf.gr R.cls k) (hout : ¬ (x.live = true ∧ (16 * g : Int) < x.want.length)) : (R.access (x.p + 16 * g) 1).1 = 7 := by
  have hb := h.bd hs
  have h0 := h.t0
  have h1 := h.t1
  rw [h.p, Int.add_assoc, access_one R t _ (by omega) (by omega) (by omega) (by omega)]
  by_cases hl : x.live = true
  · have hL := hlv hl
    have := hL.len
    rw [tag_rest hs.sim.rok.conf k s h.hk h.hs _ (by omega) (by omega) (.inr (by have : ¬ (16 * g : Int) < x.want.length := fun y => hout ⟨hl, y⟩; omega))]
    exact touchE_poison _
  · have hl' : x.live = false := by simpa using hl
    refine slot_refused hs k s h.hk h.hs t (fun h3 => ?_) _ (by omega) (by omega)
    by_cases hz : n = 0
    · have := (h.dead hz hl').1; omega
    · exact h.old (by omega)

theorem begin_next (st : Int) (cls : List (Int × Int)) (k : Nat) (s : Int) : Cf.begin_ st cls k (s + 1) = Cf.begin_ st cls k s + 16 * Cf.gr cls k := by
  unfold Cf.begin_
  rw [Int.add_mul, Int.one_mul]; omega

/-- the slots beside -/
theorem KHad.above (h : KHad R x 0 k s t) (hok : KOk B G R) (hn : s + 1 < (Cf.sl R.cls k).toNat) (g : Nat) (hg : (g : Int) < Cf.gr R.cls k) : (R.access (x.p + 16 * Cf.gr R.cls k + 16 * g) 1).1 = 7 := by
  have hb := h.bd hok.simb
  have h0 := h.t0
  have h1 := h.t1
  have hbn := begin_next R.st R.cls k s
  rw [h.p, show t * 72057594037927936 + Cf.begin_ R.st R.cls k s + 16 * Cf.gr R.cls k + 16 * (g : Int) = t * 72057594037927936 + (Cf.begin_ R.st R.cls k s + 16 * Cf.gr R.cls k + 16 * g) by omega, access_one R t _ (by omega) (by omega) (by omega) (by omega)]
  refine slot_refused hok.simb k (s + 1) h.hk hn t (fun h3 => ?_) _ (by rw [show ((s + 1 : Nat) : Int) = (s : Int) + 1 by omega]; omega) (by rw [show ((s + 1 : Nat) : Int) = (s : Int) + 1 by omega]; omega)
  rw [(h.cur rfl).1]
  exact hok.nb k s h.gv (live_given h3)
theorem KHad.below (h : KHad R x 0 k s t) (hok : KOk B G R) (hn : 1 ≤ s) (g : Nat) (hg : (g : Int) < Cf.gr R.cls k) : (R.access (x.p - 16 * Cf.gr R.cls k + 16 * g) 1).1 = 7 := by
  have hb := h.bd hok.simb
  have h0 := h.t0
  have h1 := h.t1
  obtain ⟨s', rfl⟩ : ∃ s', s = s' + 1 := ⟨s - 1, by omega⟩
  have hbn := begin_next R.st R.cls k s'
  have hbd := Cf.begin_bd hok.simb.sim.rok.conf k h.hk s' (by omega) (by have := hok.simb.sim.rok.conf.s1 k h.hk; omega)
  rw [show ((s' + 1 : Nat) : Int) = (s' : Int) + 1 by omega] at hb
  rw [h.p, show ((s' + 1 : Nat) : Int) = (s' : Int) + 1 by omega, show t * 72057594037927936 + Cf.begin_ R.st R.cls k ((s' : Int) + 1) - 16 * Cf.gr R.cls k + 16 * (g : Int) = t * 72057594037927936 + (Cf.begin_ R.st R.cls k s' + 16 * g) by omega, access_one R t _ (by omega) (by omega) (by omega) (by omega)]
  refine slot_refused hok.simb k s' h.hk (by have := h.hs; omega) t (fun h3 => ?_) _ (by omega) (by omega)
  rw [(h.cur rfl).1]
  exact fun y => hok.nb k s' (live_given h3) h.gv y.symm
/-- .. or no memory there -/
theorem KHad.edgeUp (h : KHad R x n k s t) (hs : SimB G R) (hn : (s : Int) + 1 = Cf.sl R.cls k) : (R.access (x.p + 16 * Cf.gr R.cls k) 1).1 = 6 := by
  have hb := h.bd hs
  have h0 := h.t0
  have h1 := h.t1
  have hbn := begin_next R.st R.cls k s
  have hg := gap_tag hs.sim.rok.conf (k + 1) (by have := h.hk; omega)
  have h2 : Cf.gran R.st R.cls (k + 1) = Cf.gran R.st R.cls k + Cf.sl R.cls k * Cf.gr R.cls k + 1 := rfl
  have h3 : Cf.begin_ R.st R.cls k ((s : Int) + 1) = 16 * (Cf.gran R.st R.cls (k + 1) - 1) := by
    unfold Cf.begin_
    rw [hn, h2]; omega
  rw [h.p, Int.add_assoc, ← hbn, access_one R t _ (by omega) (by omega) (by omega) (by omega), h3, hg]
  rfl
theorem KHad.edgeDown (h : KHad R x n k s t) (hs : SimB G R) (hn : s = 0) : (R.access (x.p - 16) 1).1 = 6 := by
  have hb := h.bd hs
  have h0 := h.t0
  have h1 := h.t1
  have hg := gap_tag hs.sim.rok.conf k (by have := h.hk; omega)
  have h3 : Cf.begin_ R.st R.cls k s - 16 = 16 * (Cf.gran R.st R.cls k - 1) := by
    unfold Cf.begin_
    rw [hn]
    simp; omega
  rw [h.p, show t * 72057594037927936 + Cf.begin_ R.st R.cls k s - 16 = t * 72057594037927936 + (Cf.begin_ R.st R.cls k s - 16) by omega, access_one R t _ (by omega) (by omega) (by omega) (by omega), h3, hg]
  rfl
end
end Go.Proofs.Ytjikemhmnkckcaa
